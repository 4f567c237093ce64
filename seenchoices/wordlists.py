"""Lists of words: which of them can be the nearest to a target, and which surely are."""

from seenchoices.choices import check_known
from seenchoices.errors import InvalidPart, UnknownWord
from seenchoices.knowledge import Knowledge
from seenchoices.schemes import check_scheme
from seenchoices.words import MOST_WORDS, check_word, check_words, is_list


def check_targets(targets):
    """Raise an error unless this is a list of one to five words; they may be equal."""
    if not is_list(targets) or not 1 <= len(targets) <= MOST_WORDS:
        raise InvalidPart(targets)
    for target in targets:
        check_word(target)


def choices_for_nearest(words, target, word):
    """The choices that say that a word of a list is nearest to a target."""
    return [(target, word, other, False) for other in words if other != word]


def choices_for_set(words, target, chosen):
    """The choices that say that just the chosen words of a list are nearest to a target."""
    first = chosen[0]
    around = [*chosen[1:], first]
    same = [(target, one, other, False) for one, other in zip(chosen, around) if one != other]
    return same + [(target, first, other, True) for other in words if other not in chosen]


def possible_words(known, words, target):
    """The words that can be nearest to a target."""
    return [word for word in words if known.is_possible((), choices_for_nearest(words, target, word))]


def is_surely_nearest(known, words, target, word):
    """True if no other word can be nearer to a target than the word is."""
    for other in words:
        if other != word and known.is_possible((), [(target, other, word, True)]):
            return False
    return True


def is_always_nearest(known, words, targets, word):
    """True if no other word can be nearer to one of the targets than the word is."""
    for target in targets:
        if not is_surely_nearest(known, words, target, word):
            return False
    return True


def sets_of(words):
    """All lists of one or more of the words: shorter ones first, then by the positions of their words."""
    sets = [[]]
    for place in range(len(words)):
        sets = sets + [[*places, place] for places in sets]
    ordered = sorted([(len(places), places) for places in sets])
    return [[words[place] for place in places] for many, places in ordered if many > 0]


class WordList:
    """One to five different words under a scheme; it never changes."""

    def __init__(self, scheme, words):
        check_scheme(scheme)
        check_words(words)
        self._scheme = scheme
        self._words = tuple(words)

    def __len__(self):
        return len(self._words)

    def __contains__(self, value):
        return isinstance(value, str) and value in self._words

    def __eq__(self, other):
        return isinstance(other, WordList) and self._scheme == other._scheme and self._words == other._words

    def scheme(self):
        """The scheme."""
        return self._scheme

    def words(self):
        """The words, a tuple."""
        return self._words

    def can_be_nearest(self, target, *, facts=(), choices=()):
        """The words that are nearest to the target at some costs at which the facts and choices hold."""
        check_word(target)
        check_known(self._scheme, facts, choices)
        return possible_words(Knowledge(self._scheme, facts, choices), self._words, target)

    def surely_nearest(self, target, *, facts=(), choices=()):
        """The words that are nearest to the target at all costs at which the facts and choices hold."""
        check_word(target)
        check_known(self._scheme, facts, choices)
        known = Knowledge(self._scheme, facts, choices)
        return [word for word in self._words if is_surely_nearest(known, self._words, target, word)]

    def why_nearest(self, target, word, *, facts=(), choices=()):
        """Costs at which the word is nearest to the target, or a tree that shows that there are none."""
        check_word(target)
        if word not in self:
            raise UnknownWord(word)
        check_known(self._scheme, facts, choices)
        known = Knowledge(self._scheme, facts, choices)
        return known.answer_with(choices_for_nearest(self._words, target, word))

    def nearest_sets(self, target, *, facts=(), choices=()):
        """All lists of words that are, at some costs, just the nearest ones, each with such costs."""
        check_word(target)
        check_known(self._scheme, facts, choices)
        known = Knowledge(self._scheme, facts, choices)
        found = []
        for chosen in sets_of(possible_words(known, self._words, target)):
            point = known.point_with((), choices_for_set(self._words, target, chosen))
            if point is not None:
                found.append((chosen, known.costs_at(point)))
        return found

    def best_word(self, targets, *, facts=(), choices=()):
        """The first word that is nearest to each target at all costs at which the facts and choices hold, or None."""
        check_targets(targets)
        check_known(self._scheme, facts, choices)
        known = Knowledge(self._scheme, facts, choices)
        for word in self._words:
            if is_always_nearest(known, self._words, targets, word):
                return word
        return None
