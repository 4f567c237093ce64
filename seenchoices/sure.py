"""What is sure of words and costs at all costs at which facts and choices hold."""

from seenchoices.choices import check_fact, check_known
from seenchoices.errors import InvalidRelation
from seenchoices.knowledge import Knowledge
from seenchoices.schemes import check_cost, check_scheme
from seenchoices.trees import is_tree
from seenchoices.words import check_word

RELATIONS = ("nearer", "same", "farther")
GREATEST_FACTOR = 100


def check_three(scheme, target, one, other):
    """Raise an error unless this is a scheme and three words."""
    check_scheme(scheme)
    for word in (target, one, other):
        check_word(word)


def check_related(scheme, target, one, relation, other):
    """Raise an error unless this is a scheme, a relation, and words in the places around it."""
    check_scheme(scheme)
    check_word(target)
    check_word(one)
    if relation not in RELATIONS:
        raise InvalidRelation(relation)
    check_word(other)


def choices_of(target, one, relation, other):
    """The choices that say a relation of two words to a target."""
    if relation == "nearer":
        return [(target, one, other, True)]
    if relation == "farther":
        return [(target, other, one, True)]
    return [(target, one, other, False), (target, other, one, False)]


def relations(scheme, target, one, other, *, facts=(), choices=()):
    """The relations of two words to a target that are possible."""
    check_three(scheme, target, one, other)
    check_known(scheme, facts, choices)
    known = Knowledge(scheme, facts, choices)
    if not known.is_possible((), ()):
        return []
    return [word for word in RELATIONS if known.is_possible((), choices_of(target, one, word, other))]


def why(scheme, target, one, relation, other, *, facts=(), choices=()):
    """Costs at which a relation is the told one, or a tree that shows that there are none."""
    check_related(scheme, target, one, relation, other)
    check_known(scheme, facts, choices)
    return Knowledge(scheme, facts, choices).answer_with(choices_of(target, one, relation, other))


def shows_why(scheme, target, one, relation, other, rows, *, facts=(), choices=()):
    """True if rows, any value, is a tree that shows that a relation is not possible."""
    check_related(scheme, target, one, relation, other)
    check_known(scheme, facts, choices)
    return is_tree(scheme, facts, [*choices, *choices_of(target, one, relation, other)], rows)


def never_farther(scheme, target, one, other, *, facts=(), choices=()):
    """True if it is sure that the one word is not farther from the target than the other one."""
    check_three(scheme, target, one, other)
    check_known(scheme, facts, choices)
    return not Knowledge(scheme, facts, choices).is_possible((), choices_of(target, one, "farther", other))


def follows(scheme, fact, *, facts=(), choices=()):
    """True if a fact is sure."""
    check_scheme(scheme)
    check_fact(scheme, fact)
    check_known(scheme, facts, choices)
    numbers, strict = fact
    denied = (tuple([-number for number in numbers]), not strict)
    return not Knowledge(scheme, facts, choices).is_possible([denied], ())


def numbers_between(scheme, one, factor, other):
    """The numbers of a fact that compares the cost one with a factor times the cost other."""
    found = [1 if name == one else 0 for name in scheme.costs]
    return tuple([number - (factor if name == other else 0) for number, name in zip(found, scheme.costs)])


def greatest_low(known, scheme, one, other):
    """The greatest factor for which the cost one is surely not less, or 0."""
    low = 0
    high = GREATEST_FACTOR
    while low < high:
        middle = (low + high + 1) // 2
        less = tuple([-number for number in numbers_between(scheme, one, middle, other)])
        if known.is_possible([(less, True)], ()):
            high = middle - 1
        else:
            low = middle
    return low


def smallest_high(known, scheme, one, other):
    """The smallest factor for which the cost one is surely not greater, or one more than the greatest factor."""
    low = 1
    high = GREATEST_FACTOR + 1
    while low < high:
        middle = (low + high) // 2
        if known.is_possible([(numbers_between(scheme, one, middle, other), True)], ()):
            low = middle + 1
        else:
            high = middle
    return low


def bounds(scheme, one, other, *, facts=(), choices=()):
    """The greatest and the smallest integers that surely bound the quotient of two costs; None where there is none."""
    check_scheme(scheme)
    for cost in (one, other):
        check_cost(scheme.costs, cost)
    check_known(scheme, facts, choices)
    known = Knowledge(scheme, facts, choices)
    if not known.is_possible((), ()):
        return (GREATEST_FACTOR, 1)
    low = greatest_low(known, scheme, one, other)
    high = smallest_high(known, scheme, one, other)
    return (low if low >= 1 else None, high if high <= GREATEST_FACTOR else None)
