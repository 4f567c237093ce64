"""Answers to [34], [41], [42], [43], [51] and [52] that were told before they were told sooner, and their order."""

import hashlib
import itertools
import unittest

from listing import count_steps, listed, some_pairs, some_schemes
from seenchoices.counts import all_counts, free_counts, minimal_counts, row_with, rows_with
from seenchoices.distances import (
    cheapest_counts, cheapest_many, cheapest_row, distance, nearest, order_at,
)
from seenchoices.rows import row_count, rows_between
from seenchoices.schemes import Scheme

ONE, OTHER = "abcdef", "fedcba"
FIRST_STEPS = ("keep", "drop", "add", "swap", "turn")
# The counts of the rows between both words, each with how many rows have them.
NUMBERS = {
    (0, 4, 0, 1): 1, (0, 6, 0, 0): 1, (2, 3, 0, 1): 12, (2, 4, 0, 0): 18, (2, 5, 0, 0): 24, (4, 2, 0, 1): 66,
    (4, 2, 2, 0): 9, (4, 3, 0, 0): 144, (4, 3, 1, 0): 18, (4, 4, 0, 0): 249, (6, 0, 2, 0): 1, (6, 1, 0, 1): 120,
    (6, 1, 1, 0): 6, (6, 1, 2, 0): 30, (6, 2, 0, 0): 433, (6, 2, 1, 0): 120, (6, 3, 0, 0): 1090, (8, 0, 0, 1): 70,
    (8, 0, 1, 0): 10, (8, 0, 2, 0): 29, (8, 1, 0, 0): 550, (8, 1, 1, 0): 252, (8, 2, 0, 0): 2309, (10, 0, 0, 0): 252,
    (10, 0, 1, 0): 174, (10, 1, 0, 0): 2346, (12, 0, 0, 0): 924,
}
MINIMAL = [
    (0, 4, 0, 1), (0, 6, 0, 0), (2, 3, 0, 1), (2, 4, 0, 0), (4, 2, 0, 1), (4, 2, 2, 0), (4, 3, 0, 0), (6, 0, 2, 0),
    (6, 1, 0, 1), (6, 1, 1, 0), (6, 2, 0, 0), (8, 0, 0, 1), (8, 0, 1, 0), (8, 1, 0, 0), (10, 0, 0, 0),
]
FREE = {
    "swap": [(8, 0, 0, 1), (10, 0, 0, 0)],
    "near": [(0, 4, 0, 1), (0, 6, 0, 0), (2, 3, 0, 1), (2, 4, 0, 0), (4, 2, 0, 1), (4, 3, 0, 0), (6, 1, 0, 1),
             (6, 2, 0, 0), (8, 0, 0, 1), (8, 1, 0, 0), (10, 0, 0, 0)],
    "far": [(6, 0, 2, 0), (8, 0, 0, 1), (8, 0, 1, 0), (10, 0, 0, 0)],
    "turn": [(0, 6, 0, 0), (2, 4, 0, 0), (4, 2, 2, 0), (4, 3, 0, 0), (6, 0, 2, 0), (6, 1, 1, 0), (6, 2, 0, 0),
             (8, 0, 1, 0), (8, 1, 0, 0), (10, 0, 0, 0)],
}


def long_scheme():
    return Scheme(["indel", "swap", "near", "turn"], add="indel", drop="indel", swap="swap",
                  groups=[("abc", "near")], turn="turn")


def in_words(row):
    """A row as one string: each step by the first letter of its name and what it writes."""
    return " ".join(step[0][0] + "".join(step[1:]) for step in row)


class RowsTest(unittest.TestCase):
    def test_all_rows_of_four_letters_in_their_order(self):
        rows = list(rows_between(long_scheme(), "abcd", "dcba"))
        self.assertEqual(len(rows), 332)
        self.assertEqual([in_words(row) for row in rows[:3] + rows[165:167] + rows[-2:]], [
            "sd t sa", "sd t aa d", "sd t d aa", "ad d ac d d ab sa", "ad d ac d d ab aa d", "d d d d ad ac ab aa",
            "d d d k ac ab aa"])
        digest = hashlib.sha256(repr(rows).encode()).hexdigest()
        self.assertEqual(digest, "ea40c0cf0edf6e86152ce33e51b20ee715ecbdf32097dcc9897377f75ca47a95")

    def test_the_last_steps_come_first(self):
        for scheme in some_schemes() + [long_scheme()]:
            for one, other in some_pairs() + [("abcd", "dcba"), ("abca", "acb")]:
                rows = sorted((list(row) for row in listed(scheme, one, other)),
                              key=lambda row: [-FIRST_STEPS.index(step[0]) for step in row])
                self.assertEqual(list(rows_between(scheme, one, other)), rows)

    def test_how_many(self):
        self.assertEqual(row_count(long_scheme(), ONE, OTHER), 9258)
        self.assertEqual(sum(1 for _ in rows_between(long_scheme(), ONE, OTHER)), 9258)
        self.assertEqual(row_count(long_scheme(), "abcd", "dcba"), 332)

    def test_the_most_rows(self):
        scheme = Scheme(["e"], add="e", drop="e", swap="e", turn="e")
        self.assertEqual(row_count(scheme, "ababab", "bababa"),
                         sum(rows_with(scheme, "ababab", "bababa", (many,)) for many in range(13)))
        self.assertEqual([row_count(scheme, "aaaaaa", "aaaaaa"), row_count(scheme, "abcdef", "ghijkl")], [8989, 8989])
        self.assertEqual(rows_with(scheme, "aaaaaa", "bbbbbb", (6,)), 1)


class CountsTest(unittest.TestCase):
    def test_lists_of_counts_in_their_order(self):
        self.assertEqual(all_counts(long_scheme(), ONE, OTHER), sorted(NUMBERS))
        self.assertEqual(minimal_counts(long_scheme(), ONE, OTHER), MINIMAL)
        for kind, expected in FREE.items():
            self.assertEqual(free_counts(long_scheme(), ONE, OTHER, kind), expected)

    def test_how_many_rows_have_counts(self):
        self.assertEqual({counts: rows_with(long_scheme(), ONE, OTHER, counts) for counts in NUMBERS}, NUMBERS)
        for counts in itertools.product(range(0, 14, 2), range(8), range(4), range(3)):
            number = NUMBERS.get(counts, 0)
            self.assertEqual(rows_with(long_scheme(), ONE, OTHER, counts), number)
            self.assertEqual(row_with(long_scheme(), ONE, OTHER, counts) is None, number == 0)

    def test_counts_that_are_too_great(self):
        for counts in [(13, 0, 0, 0), (0, 7, 0, 0), (0, 0, 7, 0), (0, 0, 0, 4), (10 ** 30, 0, 0, 0), (12, 6, 6, 3)]:
            self.assertEqual((row_with(long_scheme(), ONE, OTHER, counts), rows_with(long_scheme(), ONE, OTHER, counts)),
                             (None, 0))

    def test_the_row_with_counts(self):
        for counts, row in [((0, 4, 0, 1), "sf se t sb sa"), ((4, 2, 0, 1), "d d af ae t sb sa"),
                            ((6, 1, 0, 1), "d d d af t ac ab sa"), ((8, 0, 1, 0), "d af ae ad ac k sa d d d")]:
            self.assertEqual(in_words(row_with(long_scheme(), ONE, OTHER, counts)), row)

    def test_the_row_begins_with_the_first_steps(self):
        for scheme in some_schemes() + [long_scheme()]:
            for one, other in some_pairs():
                first = {}
                for row in sorted(listed(scheme, one, other),
                                  key=lambda row: [FIRST_STEPS.index(step[0]) for step in row]):
                    first.setdefault(count_steps(scheme, one, row), list(row))
                for counts, row in first.items():
                    self.assertEqual(row_with(scheme, one, other, counts), row)


class CheapestTest(unittest.TestCase):
    def test_the_distance_the_number_and_the_row(self):
        for numbers, far, many, found, row in [
            ((3, 2, 1, 4), 12, 2, [(0, 4, 0, 1), (0, 6, 0, 0)], "sf se t sb sa"),
            ((1, 1, 1, 1), 5, 1, [(0, 4, 0, 1)], "sf se t sb sa"),
            ((5, 7, 2, 3), 31, 1, [(0, 4, 0, 1)], "sf se t sb sa"),
            ((2, 9, 9, 9), 20, 252, [(10, 0, 0, 0)], "d d d d d k ae ad ac ab aa"),
        ]:
            costs = dict(zip(long_scheme().costs, numbers))
            self.assertEqual(distance(long_scheme(), ONE, OTHER, costs), far)
            self.assertEqual(cheapest_many(long_scheme(), ONE, OTHER, costs), many)
            self.assertEqual(cheapest_counts(long_scheme(), ONE, OTHER, costs), found)
            self.assertEqual(in_words(cheapest_row(long_scheme(), ONE, OTHER, costs)), row)

    def test_lists_of_words(self):
        costs = dict(zip(long_scheme().costs, (3, 2, 1, 4)))
        words = ["abcdef", "abcdea", "fedcb", "fabcde", "eabcdf"]
        self.assertEqual(nearest(long_scheme(), OTHER, words, costs), ["fedcb"])
        self.assertEqual(order_at(long_scheme(), OTHER, words, costs),
                         [["fedcb"], ["fabcde"], ["abcdea", "eabcdf"], ["abcdef"]])


if __name__ == "__main__":
    unittest.main()
