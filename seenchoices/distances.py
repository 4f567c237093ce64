"""Distances between words at told costs."""

from seenchoices.counts import minimal_counts, numbers_with, row_with
from seenchoices.rows import check_pair
from seenchoices.schemes import check_scheme, numbers_of
from seenchoices.words import check_word, check_words, weighed


def smallest_price(scheme, one, other, numbers):
    """The distance from the one word to the other one, for costs as a tuple."""
    return min([weighed(counts, numbers) for counts in minimal_counts(scheme, one, other)])


def distance(scheme, one, other, costs):
    """The smallest price of the edit rows that lead from the one word to the other one."""
    check_pair(scheme, one, other)
    return smallest_price(scheme, one, other, numbers_of(scheme, costs))


def cheapest_row(scheme, one, other, costs):
    """An edit row of the smallest price."""
    return row_with(scheme, one, other, cheapest_counts(scheme, one, other, costs)[0])


def cheapest_counts(scheme, one, other, costs):
    """The ascending list of the different counts of the edit rows of the smallest price."""
    check_pair(scheme, one, other)
    numbers = numbers_of(scheme, costs)
    # Each cost is at least 1, so counts that are not minimal have a greater price.
    found = minimal_counts(scheme, one, other)
    prices = [weighed(counts, numbers) for counts in found]
    least = min(prices)
    return [counts for counts, worth in zip(found, prices) if worth == least]


def cheapest_many(scheme, one, other, costs):
    """How many edit rows have the smallest price."""
    return sum(numbers_with(scheme, one, other, cheapest_counts(scheme, one, other, costs)))


def checked_distances(scheme, target, words, costs):
    """The distance of each of the words to the target, if everything is right."""
    check_scheme(scheme)
    check_word(target)
    check_words(words)
    numbers = numbers_of(scheme, costs)
    return [smallest_price(scheme, word, target, numbers) for word in words]


def nearest(scheme, target, words, costs):
    """Those of the words whose distance to the target is the smallest one."""
    found = checked_distances(scheme, target, words, costs)
    least = min(found)
    return [word for word, far in zip(words, found) if far == least]


def order_at(scheme, target, words, costs):
    """The words in groups of the same distance to the target, the nearest ones first."""
    found = checked_distances(scheme, target, words, costs)
    return [[word for word, far in zip(words, found) if far == step] for step in sorted(set(found))]
