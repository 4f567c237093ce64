"""Schemes that are alike for some words, and kinds of edits and costs that are needed or not."""

from seenchoices.choices import check_facts
from seenchoices.counts import KINDS, free_counts, minimal_counts
from seenchoices.errors import InvalidKind, UnlikeCosts
from seenchoices.knowledge import Knowledge
from seenchoices.schemes import check_cost, check_scheme
from seenchoices.words import check_words


def pairs_of(words):
    """All pairs of different words of a list, in the order of their positions."""
    return [(word, target) for word in words for target in words if word != target]


def cheaper_point(known, found, others, strict):
    """A point at which one of the counts that were found is cheaper than all others, or, if not strict, as cheap."""
    for counts in found:
        # Counts that are among the others cannot be cheaper than these.
        if strict and counts in others:
            continue
        facts = []
        for other in others:
            facts.append((tuple([count - less for count, less in zip(other, counts)]), strict))
        point = known.point_with(facts, ())
        if point is not None:
            return point
    return None


def check_alike(one, other, words, facts):
    """Raise an error unless these are schemes with the same costs, words, and facts about the costs."""
    check_scheme(one)
    check_scheme(other)
    if one.costs != other.costs:
        raise UnlikeCosts(other)
    check_words(words)
    check_facts(one, facts)


def parting_point(known, first, second):
    """A point at which the smallest prices of two lists of minimal counts are different, or None."""
    point = cheaper_point(known, first, second, True)
    return point if point is not None else cheaper_point(known, second, first, True)


def parting(one, other, words, *, facts=()):
    """Two words and costs at which their distance is different in two schemes, or None."""
    check_alike(one, other, words, facts)
    known = Knowledge(one, facts, ())
    for word, target in pairs_of(words):
        point = parting_point(known, minimal_counts(one, word, target), minimal_counts(other, word, target))
        if point is not None:
            return (word, target, known.costs_at(point))
    return None


def alike(one, other, words, *, facts=()):
    """True if all distances between the words are the same in two schemes."""
    return parting(one, other, words, facts=facts) is None


def pair_counts(scheme, words):
    """The minimal counts of all pairs of different words of a list."""
    return {(word, target): minimal_counts(scheme, word, target) for word, target in pairs_of(words)}


def need(known, scheme, table, kind):
    """Two words and costs at which all edit rows of the smallest price have a step of a kind, or None."""
    for word, target in table:
        point = cheaper_point(known, table[(word, target)], free_counts(scheme, word, target, kind), True)
        if point is not None:
            return (word, target, known.costs_at(point))
    return None


def needing(scheme, words, kind, *, facts=()):
    """Two words and costs at which all edit rows of the smallest price have a step of a kind, or None."""
    check_scheme(scheme)
    check_words(words)
    if kind not in KINDS:
        raise InvalidKind(kind)
    check_facts(scheme, facts)
    return need(Knowledge(scheme, facts, ()), scheme, pair_counts(scheme, words), kind)


def needless_kinds(scheme, words, *, facts=()):
    """The kinds of steps that are needless for the words."""
    check_scheme(scheme)
    check_words(words)
    check_facts(scheme, facts)
    known = Knowledge(scheme, facts, ())
    table = pair_counts(scheme, words)
    return [kind for kind in KINDS if need(known, scheme, table, kind) is None]


def paying(scheme, words, cost, *, facts=()):
    """The pairs of words for which each edit row of the smallest price surely has a step of a cost."""
    check_scheme(scheme)
    check_words(words)
    check_cost(scheme.costs, cost)
    check_facts(scheme, facts)
    known = Knowledge(scheme, facts, ())
    place = scheme.costs.index(cost)
    found = []
    for word, target in pairs_of(words):
        counts = minimal_counts(scheme, word, target)
        without = [some for some in counts if some[place] == 0]
        if cheaper_point(known, without, counts, False) is None:
            found.append((word, target))
    return found
