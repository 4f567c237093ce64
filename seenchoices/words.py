"""Plain values: integers, words, names and letters, and sums over tuples of integers."""

from math import gcd

from seenchoices.errors import Duplicate, InvalidPart, InvalidWord

LONGEST_WORD = 6
LONGEST_NAME = 8
MOST_WORDS = 5


def is_list(value):
    """True for a list and for a tuple: each is accepted in the place of the other."""
    return isinstance(value, (list, tuple))


def is_whole(value):
    """True for an integer of any size; True and False are no integers here."""
    return isinstance(value, int) and not isinstance(value, bool)


def is_whole_list(value):
    """True for a list or a tuple of integers of any size."""
    return is_list(value) and all([is_whole(item) for item in value])


def is_integer(value, low, high):
    """True for an integer from low to high."""
    return is_whole(value) and low <= value <= high


def is_letter(value):
    """True for a string of one letter from a to z."""
    return isinstance(value, str) and len(value) == 1 and "a" <= value <= "z"


def is_lettered(value):
    """True for a string of letters from a to z, also for the empty one."""
    if not isinstance(value, str):
        return False
    return value == "" or (value.isascii() and value.isalpha() and value.islower())


def is_word(value):
    """True for a string of 0 to 6 letters from a to z."""
    return is_lettered(value) and len(value) <= LONGEST_WORD


def is_name(value):
    """True for a string of 1 to 8 letters from a to z."""
    return is_lettered(value) and 1 <= len(value) <= LONGEST_NAME


def check_word(value):
    """Raise an error unless a value is a word."""
    if not is_word(value):
        raise InvalidWord(value)


def check_words(words):
    """Raise an error unless this is a list of one to five different words."""
    if not is_list(words) or not 1 <= len(words) <= MOST_WORDS:
        raise InvalidPart(words)
    for position, word in enumerate(words):
        check_word(word)
        if word in words[:position]:
            raise Duplicate(word)


def scaled(numbers):
    """A tuple of integers divided by their greatest common divisor; zeros stay as they are."""
    if not is_whole_list(numbers):
        raise InvalidPart(numbers)
    divisor = 0
    for number in numbers:
        divisor = gcd(divisor, number)
    if divisor == 0:
        return tuple(numbers)
    return tuple([number // divisor for number in numbers])


def weighed(counts, numbers):
    """What price tells, for what is known to be right."""
    return sum([count * number for count, number in zip(counts, numbers)])


def price(counts, numbers):
    """The sum of the products of the items of two tuples of integers."""
    if not is_whole_list(counts):
        raise InvalidPart(counts)
    if not is_whole_list(numbers) or len(numbers) != len(counts):
        raise InvalidPart(numbers)
    return weighed(counts, numbers)
