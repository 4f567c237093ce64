"""Facts about costs and choices between words: whether they hold, and whether they can hold together."""

from seenchoices.distances import smallest_price
from seenchoices.errors import InvalidChoice, InvalidFact, InvalidPart
from seenchoices.knowledge import Knowledge
from seenchoices.schemes import check_scheme, numbers_of
from seenchoices.trees import is_tree
from seenchoices.words import is_integer, is_list, is_word, weighed

GREATEST = 100


def says_fact(scheme, value):
    """True for a fact about the scheme, in which lists may stand in the place of tuples."""
    if not is_list(value) or len(value) != 2 or not is_list(value[0]) or not isinstance(value[1], bool):
        return False
    return len(value[0]) == len(scheme) and all([is_integer(number, -GREATEST, GREATEST) for number in value[0]])


def says_choice(value):
    """True for a choice, in which a list may stand in the place of the tuple."""
    if not is_list(value) or len(value) != 4 or not isinstance(value[3], bool):
        return False
    return all([is_word(word) for word in value[:3]])


def is_fact(scheme, value):
    """True for a fact about the scheme; lists are no tuples here."""
    check_scheme(scheme)
    return says_fact(scheme, value) and isinstance(value, tuple) and isinstance(value[0], tuple)


def is_choice(value):
    """True for a choice; a list is no tuple here."""
    return says_choice(value) and isinstance(value, tuple)


def check_fact(scheme, fact):
    """Raise an error unless this is a fact about the scheme."""
    if not says_fact(scheme, fact):
        raise InvalidFact(fact)


def check_choice(choice):
    """Raise an error unless this is a choice."""
    if not says_choice(choice):
        raise InvalidChoice(choice)


def check_facts(scheme, facts):
    """Raise an error unless this is a list of facts about the scheme."""
    if not is_list(facts):
        raise InvalidPart(facts)
    for fact in facts:
        check_fact(scheme, fact)


def check_known(scheme, facts, choices):
    """Raise an error unless these are lists of facts about the scheme and of choices."""
    check_facts(scheme, facts)
    if not is_list(choices):
        raise InvalidPart(choices)
    for choice in choices:
        check_choice(choice)


def fact_is_so(fact, numbers):
    """True if a fact holds at costs that are told as a tuple."""
    total = weighed(fact[0], numbers)
    return total > 0 if fact[1] else total >= 0


def choice_is_so(scheme, choice, numbers):
    """True if a choice holds at costs that are told as a tuple."""
    target, one, other, strict = choice
    near = smallest_price(scheme, one, target, numbers)
    far = smallest_price(scheme, other, target, numbers)
    return near < far if strict else near <= far


def fact_holds(scheme, fact, costs):
    """True if a fact holds at costs."""
    check_scheme(scheme)
    check_fact(scheme, fact)
    return fact_is_so(fact, numbers_of(scheme, costs))


def choice_holds(scheme, choice, costs):
    """True if a choice holds at costs."""
    check_scheme(scheme)
    check_choice(choice)
    return choice_is_so(scheme, choice, numbers_of(scheme, costs))


def broken(scheme, facts, choices, costs):
    """The ascending indices of the facts and of the choices that do not hold at costs."""
    check_scheme(scheme)
    check_known(scheme, facts, choices)
    numbers = numbers_of(scheme, costs)
    return (
        [index for index, fact in enumerate(facts) if not fact_is_so(fact, numbers)],
        [index for index, choice in enumerate(choices) if not choice_is_so(scheme, choice, numbers)],
    )


def explained(scheme, facts, choices):
    """Costs at which all facts and choices hold, or a tree that shows that there are none."""
    check_scheme(scheme)
    check_known(scheme, facts, choices)
    return Knowledge(scheme, facts, choices).answer_with(())


def shows_tree(scheme, facts, choices, rows):
    """True if rows, any value, is a tree for these facts and choices."""
    check_scheme(scheme)
    check_known(scheme, facts, choices)
    return is_tree(scheme, facts, choices, rows)


def conflict(scheme, facts, choices):
    """The indices of facts and of choices that cannot hold together, while any fewer of them can, or None."""
    check_scheme(scheme)
    check_known(scheme, facts, choices)
    parts = Knowledge(scheme, facts, choices).conflicting_parts()
    if parts is None:
        return None
    return (
        [index for word, index in parts if word == "fact"],
        [index for word, index in parts if word == "choice"],
    )
