"""Promises [41] to [43]: counts of edit rows, rows with told counts, and counts without a kind of steps."""

import itertools
import unittest

from listing import count_steps, counts_listed, lead, least, listed, some_pairs, some_schemes
from sample_values import any_values, plain_scheme, raised
from seenchoices.counts import all_counts, free_counts, minimal_counts, row_with, rows_with
from seenchoices.errors import InvalidCounts, InvalidKind, InvalidWord, NotScheme
from seenchoices.schemes import Scheme

KINDS = ["swap", "near", "far", "turn"]


def small_scheme():
    return Scheme(["indel", "swap"], add="indel", drop="indel", swap="swap")


def has_kind(scheme, word, row, kind):
    """True if an edit row for the word has a step of the kind."""
    rest = word
    for step in row:
        near = step[0] == "swap" and any(rest[0] in group[0] and step[1] in group[0] for group in scheme.groups)
        if step[0] == kind or (step[0] == "swap" and kind == ("near" if near else "far")):
            return True
        rest = rest[{"add": 0, "turn": 2}.get(step[0], 1):]
    return False


class CountsTest(unittest.TestCase):
    def test_against_all_rows(self):
        for scheme in some_schemes():
            for one, other in some_pairs():
                counts = counts_listed(scheme, one, other)
                self.assertEqual(all_counts(scheme, one, other), sorted(set(counts)))
                self.assertEqual(minimal_counts(scheme, one, other), least(counts))

    def test_long_words(self):
        for scheme in some_schemes()[2:4]:
            for one, other in [("abcdef", "badcfe"), ("ababab", "bababa"), ("seven", "evens"), ("sevens", "eleven")]:
                counts = counts_listed(scheme, one, other)
                self.assertEqual(all_counts(scheme, one, other), sorted(set(counts)))
                self.assertEqual(minimal_counts(scheme, one, other), least(counts))

    def test_some_answers(self):
        scheme = plain_scheme()
        self.assertEqual(minimal_counts(scheme, "halp", "help"), [(0, 1, 0), (2, 0, 0)])
        self.assertEqual(minimal_counts(scheme, "ab", "ba"), [(0, 0, 1), (2, 0, 0)])
        self.assertEqual(minimal_counts(scheme, "ae", "ea"), [(0, 0, 1), (0, 2, 0), (2, 0, 0)])
        self.assertEqual([all_counts(scheme, "", ""), minimal_counts(scheme, "", "ab")], [[(0, 0, 0)], [(2, 0, 0)]])
        self.assertEqual(all_counts(scheme, "a", "a"), [(0, 0, 0), (2, 0, 0)])

    def test_lists_of_tuples_that_are_new(self):
        for call in [all_counts, minimal_counts]:
            first = call(small_scheme(), "abc", "ca")
            expected = list(first)
            self.assertIs(first.__class__, list)
            self.assertTrue(all(counts.__class__ is tuple for counts in first))
            self.assertEqual(call(scheme=small_scheme(), one="abc", other="ca"), expected)
            first.clear()
            self.assertEqual(call(small_scheme(), "abc", "ca"), expected)

    def test_words_from_right_to_left(self):
        for scheme in some_schemes():
            for one, other in some_pairs():
                self.assertEqual(all_counts(scheme, one, other), all_counts(scheme, one[::-1], other[::-1]))


class RowsWithTest(unittest.TestCase):
    def test_each_counts(self):
        for scheme in some_schemes():
            for one, other in some_pairs():
                counts = counts_listed(scheme, one, other)
                for told in sorted(set(counts)):
                    self.assertEqual(rows_with(scheme, one, other, told), counts.count(told))
                    row = row_with(scheme, one, other, told)
                    self.assertEqual(lead(scheme, one, row), other)
                    self.assertEqual(count_steps(scheme, one, row), told)
                    self.assertIs(row.__class__, list)
                    self.assertTrue(all(step.__class__ is tuple for step in row))

    def test_counts_that_no_row_has(self):
        for scheme in some_schemes()[:4]:
            for one, other in [("ab", "ba"), ("abc", "ca"), ("", ""), ("a", ""), ("abb", "abb")]:
                counts = counts_listed(scheme, one, other)
                for told in itertools.product(range(6), repeat=len(scheme)):
                    self.assertEqual(rows_with(scheme, one, other, told), counts.count(told))
                    self.assertEqual(row_with(scheme, one, other, told) is None, told not in counts)
        for told in [(10 ** 29, 0), (0, 10 ** 29), (7, 7)]:
            self.assertIsNone(row_with(small_scheme(), "abc", "ca", told))
            self.assertEqual(rows_with(small_scheme(), "abc", "ca", told), 0)

    def test_lists_and_names(self):
        scheme = small_scheme()
        self.assertEqual(rows_with(scheme, "abc", "ca", [3, 0]), rows_with(scheme, "abc", "ca", (3, 0)))
        self.assertEqual(rows_with(scheme=scheme, one="abc", other="ca", counts=(3, 0)), 2)
        self.assertEqual(row_with(scheme, "", "ab", [2, 0]), [("add", "a"), ("add", "b")])
        self.assertEqual(row_with(scheme=scheme, one="", other="ab", counts=(2, 0)), [("add", "a"), ("add", "b")])
        self.assertEqual([row_with(scheme, "", "", (0, 0)), rows_with(scheme, "", "", (0, 0))], [[], 1])

    def test_arguments_stay_and_results_are_new(self):
        counts = [3, 0]
        first = row_with(small_scheme(), "abc", "ca", counts)
        self.assertEqual(counts, [3, 0])
        first.clear()
        self.assertEqual(len(row_with(small_scheme(), "abc", "ca", counts)), 4)


class FreeCountsTest(unittest.TestCase):
    def test_against_all_rows(self):
        for scheme in some_schemes():
            for one, other in some_pairs():
                rows = listed(scheme, one, other)
                for kind in KINDS:
                    free = [count_steps(scheme, one, row) for row in rows if not has_kind(scheme, one, row, kind)]
                    self.assertEqual(free_counts(scheme, one, other, kind), least(free), (one, other, kind))

    def test_kinds_are_told_by_letters_not_by_costs(self):
        # Here swaps within the group, other swaps and turns all have the same cost.
        scheme = Scheme(["e", "x"], add="x", drop="x", swap="e", groups=[("abc", "e")], turn="e")
        both = [(0, 2), (1, 0)]
        answers = {"swap": [(0, 2)], "near": [(0, 2)], "far": both, "turn": both}
        for kind in KINDS:
            self.assertEqual(free_counts(scheme, "a", "b", kind), answers[kind])
        answers = {"swap": [(0, 2)], "near": both, "far": [(0, 2)], "turn": both}
        for kind in KINDS:
            self.assertEqual(free_counts(scheme, "a", "z", kind), answers[kind])
        answers = {"swap": both, "near": both, "far": both, "turn": [(0, 2), (2, 0)]}
        for kind in KINDS:
            self.assertEqual(free_counts(scheme, "ab", "ba", kind), answers[kind])

    def test_more_counts_are_minimal_without_a_kind(self):
        scheme = plain_scheme()
        self.assertEqual(minimal_counts(scheme, "a", "e"), [(0, 1, 0), (2, 0, 0)])
        self.assertEqual(free_counts(scheme, "a", "e", "near"), [(2, 0, 0)])
        self.assertEqual(free_counts(scheme, "a", "e", "far"), [(0, 1, 0), (2, 0, 0)])

    def test_by_name_and_new(self):
        first = free_counts(scheme=small_scheme(), one="abc", other="ca", kind="turn")
        self.assertEqual(first, [(1, 2), (3, 0)])
        first.clear()
        self.assertEqual(free_counts(small_scheme(), "abc", "ca", "turn"), [(1, 2), (3, 0)])


class ErrorsTest(unittest.TestCase):
    def test_schemes_and_words(self):
        calls = [all_counts, minimal_counts]
        calls += [lambda *args, call=call: call(*args, "wrong") for call in [row_with, rows_with, free_counts]]
        for call in calls:
            for value in any_values() + ["abcdefg"]:
                if not isinstance(value, Scheme):
                    self.assertIs(raised(NotScheme, call, value, value, value).value, value)
                self.assertIs(raised(InvalidWord, call, plain_scheme(), value, 7).value, value)
                self.assertIs(raised(InvalidWord, call, plain_scheme(), "a", value).value, value)

    def test_counts(self):
        wrong = any_values() + [
            (1,), (1, 2, 3), [], (1, -1), (-1, 1), (True, 0), (0, False), (None, 0), ("1", "2"), "12", {0: 1, 1: 1},
            [[1], [2]], (1, 1, 1),
        ]
        for value in wrong:
            if value != (1, 2):
                for call in [row_with, rows_with]:
                    self.assertIs(raised(InvalidCounts, call, small_scheme(), "abc", "ca", value).value, value)

    def test_kinds(self):
        for value in any_values() + ["", "keep", "drop", "add", "Swap", "swap ", ["swap"], ("near",), {"far": "far"}]:
            self.assertIs(raised(InvalidKind, free_counts, small_scheme(), "abc", "ca", value).value, value)


if __name__ == "__main__":
    unittest.main()
