"""Promises [51] and [52]: distances at told costs, the nearest words and their order."""

import copy
import unittest

from listing import count_steps, counts_listed, lead, some_pairs, some_schemes
from sample_values import any_values, plain_scheme, raised
from seenchoices.distances import (
    cheapest_counts, cheapest_many, cheapest_row, distance, nearest, order_at,
)
from seenchoices.errors import Duplicate, InvalidCosts, InvalidPart, InvalidWord, NotScheme
from seenchoices.schemes import Scheme, costs_of

PAIR_CALLS = [distance, cheapest_row, cheapest_counts, cheapest_many]
LIST_CALLS = [nearest, order_at]
WORDS = ["abc", "cab", "a", "", "caca"]


def small_scheme():
    return Scheme(["indel", "swap"], add="indel", drop="indel", swap="swap")


def some_costs(scheme):
    """Costs with equal and with different numbers, small and great ones."""
    numbers = [(1, 1, 1, 1), (2, 1, 1, 1), (1, 2, 1, 2), (1, 1, 3, 1), (5, 3, 7, 2), (1, 10 ** 6, 3, 10 ** 6),
               (10 ** 30 + 7, 1, 10 ** 30, 2)]
    return [costs_of(scheme, row[:len(scheme)]) for row in numbers]


def prices(scheme, one, other, costs):
    """The price of each edit row between two words."""
    numbers = [costs[name] for name in scheme.costs]
    return [sum(a * b for a, b in zip(counts, numbers)) for counts in counts_listed(scheme, one, other)]


class DistanceTest(unittest.TestCase):
    def test_against_all_rows(self):
        for scheme in some_schemes():
            for one, other in some_pairs():
                counts = counts_listed(scheme, one, other)
                for costs in some_costs(scheme):
                    found = prices(scheme, one, other, costs)
                    smallest = min(found)
                    cheap = [told for told, worth in zip(counts, found) if worth == smallest]
                    self.assertEqual(distance(scheme, one, other, costs), smallest)
                    self.assertEqual(cheapest_counts(scheme, one, other, costs), sorted(set(cheap)))
                    self.assertEqual(cheapest_many(scheme, one, other, costs), len(cheap))
                    row = cheapest_row(scheme, one, other, costs)
                    self.assertEqual(lead(scheme, one, row), other)
                    self.assertIn(count_steps(scheme, one, row), cheap)
                    self.assertIs(row.__class__, list)
                    self.assertTrue(all(step.__class__ is tuple for step in row))

    def test_equal_and_empty_words(self):
        costs = {"edit": 3, "near": 1, "turn": 5}
        self.assertEqual([distance(plain_scheme(), word, word, costs) for word in ("", "a", "abcdef")], [0, 0, 0])
        self.assertEqual([distance(plain_scheme(), "", "abcdef", costs), distance(plain_scheme(), "ab", "", costs)],
                         [18, 6])
        self.assertEqual([cheapest_row(plain_scheme(), "", "", costs), cheapest_many(plain_scheme(), "", "", costs)],
                         [[], 1])
        self.assertEqual(cheapest_counts(plain_scheme(), "ab", "ab", costs), [(0, 0, 0)])

    def test_adding_and_dropping_may_differ(self):
        scheme = some_schemes()[3]
        costs = {"p": 2, "q": 7, "r": 100, "s": 100}
        self.assertEqual([distance(scheme, "f", "fgg", costs), distance(scheme, "fgg", "f", costs)], [4, 14])

    def test_by_name(self):
        costs = {"indel": 2, "swap": 1}
        for call in PAIR_CALLS:
            self.assertEqual(call(scheme=small_scheme(), one="abc", other="ca", costs=costs),
                             call(small_scheme(), "abc", "ca", costs))

    def test_keys_in_any_order(self):
        for call in PAIR_CALLS:
            self.assertEqual(call(small_scheme(), "abc", "ca", {"swap": 1, "indel": 2}),
                             call(small_scheme(), "abc", "ca", {"indel": 2, "swap": 1}))

    def test_arguments_stay_and_results_are_new(self):
        costs = {"indel": 1, "swap": 1}
        for call in [cheapest_row, cheapest_counts]:
            first = call(small_scheme(), "abc", "ca", costs)
            expected = list(first)
            first.clear()
            self.assertEqual(call(small_scheme(), "abc", "ca", costs), expected)
        self.assertEqual(costs, {"indel": 1, "swap": 1})


class ListsTest(unittest.TestCase):
    def test_against_distances(self):
        for scheme in some_schemes():
            for target in ["ca", "", "abc", "caca"]:
                for costs in some_costs(scheme):
                    far = {word: min(prices(scheme, word, target, costs)) for word in WORDS}
                    steps = sorted(set(far.values()))
                    order = [[word for word in WORDS if far[word] == step] for step in steps]
                    self.assertEqual(order_at(scheme, target, WORDS, costs), order)
                    self.assertEqual(nearest(scheme, target, WORDS, costs), order[0])
                    self.assertEqual(nearest(scheme, target, WORDS[::-1], costs), order[0][::-1])

    def test_from_the_word_to_the_target(self):
        scheme = Scheme(["add", "drop"], add="add", drop="drop", swap="drop")
        costs = {"add": 1, "drop": 9}
        self.assertEqual(nearest(scheme, "ab", ["abc", "a"], costs), ["a"])
        self.assertEqual(order_at(scheme, "ab", ["abc", "a", "b"], costs), [["a", "b"], ["abc"]])

    def test_all_at_the_same_distance(self):
        words = ["b", "c", "a", "e", "d"]
        costs = {"indel": 1, "swap": 1}
        self.assertEqual(nearest(small_scheme(), "z", words, costs), words)
        self.assertEqual(order_at(small_scheme(), "z", words, costs), [words])
        self.assertEqual(order_at(small_scheme(), "z", [""], costs), [[""]])

    def test_tuples_and_names(self):
        costs = {"indel": 2, "swap": 1}
        for call in LIST_CALLS:
            expected = call(small_scheme(), "ca", WORDS, costs)
            self.assertEqual(call(small_scheme(), "ca", tuple(WORDS), costs), expected)
            self.assertEqual(call(scheme=small_scheme(), target="ca", words=WORDS, costs=costs), expected)

    def test_arguments_stay_and_results_are_new(self):
        words, costs = ["b", "c"], {"indel": 1, "swap": 1}
        for call in LIST_CALLS:
            first = call(small_scheme(), "z", words, costs)
            expected = copy.deepcopy(first)
            self.assertIsNot(first, words)
            if call is order_at:
                self.assertIsNot(first[0], words)
                first[0].clear()
            first.clear()
            self.assertEqual(call(small_scheme(), "z", words, costs), expected)
        self.assertEqual([words, costs], [["b", "c"], {"indel": 1, "swap": 1}])


class ErrorsTest(unittest.TestCase):
    def wrong_costs(self):
        return any_values() + [
            {"indel": 1}, {"indel": 1, "swap": 1, "more": 1}, {"indel": 1, "swaps": 1}, {"indel": 0, "swap": 1},
            {"indel": True, "swap": 1}, {"indel": 1, "swap": None}, (1, 1), [1, 1], ["indel", "swap"],
            {"indel": -3, "swap": 1}, {"indel": "1", "swap": "1"},
        ]

    def test_two_words(self):
        for call in PAIR_CALLS:
            for value in any_values() + ["abcdefg"]:
                if not isinstance(value, Scheme):
                    self.assertIs(raised(NotScheme, call, value, value, value, value).value, value)
                self.assertIs(raised(InvalidWord, call, small_scheme(), value, 7, 7).value, value)
                self.assertIs(raised(InvalidWord, call, small_scheme(), "a", value, 7).value, value)
            for value in self.wrong_costs():
                self.assertIs(raised(InvalidCosts, call, small_scheme(), "a", "b", value).value, value)
                self.assertIs(raised(InvalidCosts, call, small_scheme(), "", "", value).value, value)

    def test_lists_of_words(self):
        for call in LIST_CALLS:
            for value in any_values() + ["abcdefg"]:
                if not isinstance(value, Scheme):
                    self.assertIs(raised(NotScheme, call, value, value, value, value).value, value)
                self.assertIs(raised(InvalidWord, call, small_scheme(), value, 7, 7).value, value)
                for words in ([value], ("a", value, value), ["a", value, "a", "a"], [value, 7]):
                    self.assertIs(raised(InvalidWord, call, small_scheme(), "a", words, 7).value, value)
            for value in self.wrong_costs():
                self.assertIs(raised(InvalidCosts, call, small_scheme(), "a", ["b"], value).value, value)

    def test_parts(self):
        for call in LIST_CALLS:
            for words in [None, True, 5, "abc", "", [], (), {}, {"a": 1}, {0: "a"}, ["a", "b", "c", "d", "e", "f"],
                          [7] * 6, small_scheme()]:
                self.assertIs(raised(InvalidPart, call, small_scheme(), "a", words, 7).value, words)

    def test_duplicates(self):
        again = "".join(["a", "b"])
        for call in LIST_CALLS:
            for words in [["ab", again], ("ab", "c", again, "c", 7), ["c", "ab", "d", again, 7]]:
                self.assertIs(raised(Duplicate, call, small_scheme(), "a", words, 7).label, again)


if __name__ == "__main__":
    unittest.main()
