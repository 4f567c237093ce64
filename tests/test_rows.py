"""Promises [31] to [33]: what an edit row is, where it leads, its counts, and rows back and mirrored."""

import copy
import unittest

from listing import count_steps, lead, listed, some_pairs, some_schemes
from sample_values import any_values, plain_scheme, raised
from seenchoices.errors import InvalidEdits, InvalidWord, NotScheme
from seenchoices.rows import counts_of, is_row, mirrored, turned_back, written
from seenchoices.schemes import Scheme

ROW = [("keep",), ("swap", "e"), ("turn",), ("add", "s")]
READERS = [written, counts_of, turned_back, mirrored]


def other_steps():
    """Steps of each kind, with different letters, and what is no step at all."""
    return [
        ("keep",), ("drop",), ("turn",), ("add", "a"), ("add", "z"), ("swap", "a"), ("swap", "b"), ("swap", "z"),
        ("add", "A"), ("add", ""), ("add", "ab"), ("swap",), ("add",), ("keep", "a"), ("turn", "a"), ("drop", None),
        ("Keep",), "keep", (), None, ("swap", "a", "b"),
    ]


def changed_rows(row):
    """The row with one step out, twice, exchanged for another one, with another step behind it, and turned about."""
    found = [row[::-1], row + (("keep",),), (("drop",),) + row]
    for at in range(len(row)):
        found += [row[:at] + row[at + 1:], row[:at + 1] + row[at:]]
        found += [row[:at] + (step,) + row[at + 1:] for step in other_steps()]
    found += [row + (step,) for step in other_steps()]
    return found


def as_lists(row):
    return [list(step) for step in row]


class IsRowTest(unittest.TestCase):
    def test_each_kind_of_step(self):
        scheme = plain_scheme()
        for word, row in [("halp", ROW), ("a", [("keep",)]), ("a", [("drop",)]), ("", [("add", "z")]), ("", []),
                          ("a", [("swap", "b")]), ("ab", [("turn",)]), ("ab", [("add", "q"), ("turn",), ("add", "q")]),
                          ("abcdef", [("turn",)] * 3), ("aaaaaa", [("keep",)] * 6), ("", [("add", "x")] * 6)]:
            self.assertIs(is_row(scheme, word, row), True, row)
            self.assertIs(is_row(scheme, word, as_lists(row)), True)
            self.assertIs(is_row(scheme, word, tuple(row)), True)
            self.assertIs(is_row(scheme, word, tuple(as_lists(row))), True)
            self.assertIs(is_row(scheme=scheme, word=word, value=row), True)

    def test_steps_that_cannot_stand_there(self):
        scheme = plain_scheme()
        for word, row in [("halp", ROW[1:]), ("hall", ROW), ("halp", ROW[:3] + [("drop",)]), ("halp", ROW[:2]),
                          ("", [("keep",)]), ("", [("drop",)]), ("", [("swap", "a")]), ("", [("turn",)]),
                          ("a", []), ("a", [("turn",)]), ("aa", [("turn",)]), ("a", [("swap", "a")]),
                          ("a", [("add", "a")]), ("a", [("keep",), ("keep",)]), ("ab", [("keep",), ("turn",)])]:
            self.assertIs(is_row(scheme, word, row), False, row)

    def test_turns_only_with_turns_in_the_scheme(self):
        scheme = Scheme(["e"], add="e", drop="e", swap="e")
        self.assertIs(is_row(scheme, "ab", [("turn",)]), False)
        self.assertIs(is_row(scheme, "ab", [("keep",), ("keep",)]), True)

    def test_at_most_six_letters_are_written(self):
        scheme = plain_scheme()
        self.assertIs(is_row(scheme, "", [("add", "x")] * 7), False)
        self.assertIs(is_row(scheme, "abcdef", [("add", "x")] + [("keep",)] * 6), False)
        self.assertIs(is_row(scheme, "abcdef", [("add", "x")] + [("keep",)] * 5 + [("drop",)]), True)
        self.assertIs(is_row(scheme, "abcdef", [("add", "x")] * 6 + [("drop",)] * 6), True)
        self.assertIs(is_row(scheme, "abcdef", [("add", "x")] * 7 + [("drop",)] * 6), False)
        self.assertIs(is_row(scheme, "", [("add", "x")] * 1000), False)

    def test_values_of_any_kind(self):
        for value in ["keep", ("keep",), ["keep"], [["keep", "keep"]], {"keep": 1}, [("keep",), None], {0: ("keep",)}]:
            self.assertIs(is_row(plain_scheme(), "a", value), False, value)
        for value in any_values():
            self.assertIs(is_row(plain_scheme(), "", value), value in ([], ()), value)
            self.assertIs(is_row(plain_scheme(), "a", value), False, value)
            self.assertIs(is_row(plain_scheme(), "a", [value]), False, value)
            for kind in ["keep", "drop", "turn", "add", "swap", value]:
                self.assertIs(is_row(plain_scheme(), "ab", [(kind, value)]), False, value)

    def test_rows_and_what_is_almost_one(self):
        seen = {True: 0, False: 0}
        for scheme in some_schemes():
            for one, other in some_pairs():
                rows = listed(scheme, one, other)
                for row in rows[::max(1, len(rows) // 3)]:
                    for value in [row, *changed_rows(row)]:
                        expected = lead(scheme, one, value) is not None
                        seen[expected] += 1
                        self.assertIs(is_row(scheme, one, value), expected, (one, value))
                        if not expected:
                            self.assertIs(raised(InvalidEdits, written, scheme, one, value).value, value)
        self.assertGreater(min(seen.values()), 5000)


class ReadersTest(unittest.TestCase):
    def test_words_and_counts(self):
        for scheme in some_schemes():
            for one, other in some_pairs():
                for row in listed(scheme, one, other)[:40]:
                    self.assertEqual(written(scheme, one, list(row)), other)
                    counts = counts_of(scheme, one, as_lists(row))
                    self.assertEqual(counts, count_steps(scheme, one, row))
                    self.assertIs(counts.__class__, tuple)

    def test_groups_and_other_swaps(self):
        scheme = some_schemes()[3]
        row = [("swap", "b"), ("swap", "d"), ("swap", "a"), ("drop",), ("add", "c"), ("turn",)]
        self.assertEqual(written(scheme, "accedc", row), "bdaccd")
        self.assertEqual(counts_of(scheme, "accedc", row), (1, 2, 2, 1))

    def test_by_name(self):
        for call in READERS:
            self.assertEqual(call(scheme=plain_scheme(), word="halp", row=ROW), call(plain_scheme(), "halp", ROW))

    def test_back_and_mirrored(self):
        scheme = plain_scheme()
        self.assertEqual(turned_back(scheme, "halp", ROW), [("keep",), ("swap", "a"), ("turn",), ("drop",)])
        self.assertEqual(turned_back(scheme, "ab", [["drop"], ["keep"], ["add", "c"]]),
                         [("add", "a"), ("keep",), ("drop",)])
        self.assertEqual(mirrored(scheme, "halp", ROW), [("add", "s"), ("turn",), ("swap", "e"), ("keep",)])
        self.assertEqual([turned_back(scheme, "", []), mirrored(scheme, "", ())], [[], []])

    def test_back_and_mirrored_of_all_rows(self):
        for scheme in some_schemes():
            for one, other in some_pairs():
                for row in listed(scheme, one, other)[:40]:
                    back = turned_back(scheme, one, as_lists(row))
                    self.assertEqual(lead(scheme, other, back), one)
                    self.assertEqual(turned_back(scheme, other, back), list(row))
                    turned = mirrored(scheme, one, tuple(as_lists(row)))
                    self.assertEqual(turned, list(row[::-1]))
                    self.assertEqual(lead(scheme, one[::-1], turned), other[::-1])
                    self.assertTrue(all(step.__class__ is tuple for step in back + turned))
                    self.assertEqual([back.__class__, turned.__class__], [list, list])

    def test_arguments_stay_and_results_are_new(self):
        row = as_lists(ROW)
        before = copy.deepcopy(row)
        for call in [turned_back, mirrored]:
            first = call(plain_scheme(), "halp", row)
            second = call(plain_scheme(), "halp", row)
            self.assertIsNot(first, second)
            first.clear()
            self.assertEqual(call(plain_scheme(), "halp", row), second)
        for call in [is_row, written, counts_of]:
            call(plain_scheme(), "halp", row)
        self.assertEqual(row, before)

    def test_mirrored_twice_is_a_new_list(self):
        row = list(ROW)
        self.assertIsNot(mirrored(plain_scheme(), "halp", row), row)
        self.assertEqual(mirrored(plain_scheme(), "plah", mirrored(plain_scheme(), "halp", row)), ROW)


class ErrorsTest(unittest.TestCase):
    def test_no_scheme_comes_first(self):
        for value in any_values() + [Scheme, "edit", ("edit", "near", "turn")]:
            if not isinstance(value, Scheme):
                for call in READERS + [is_row]:
                    self.assertIs(raised(NotScheme, call, value, "a", [("keep",)]).value, value)
                    self.assertIs(raised(NotScheme, call, value, 7, 7).value, value)

    def test_no_word_comes_second(self):
        for value in any_values() + ["abcdefg", "aB", "a b"]:
            for call in READERS + [is_row]:
                self.assertIs(raised(InvalidWord, call, plain_scheme(), value, [("keep",)]).value, value)
                self.assertIs(raised(InvalidWord, call, plain_scheme(), value, value).value, value)

    def test_no_row_comes_last(self):
        for value in any_values() + [ROW, ROW[:2], [["keep"], ["keep"]], "keep", [("swap", "a")]]:
            for call in READERS:
                self.assertIs(raised(InvalidEdits, call, plain_scheme(), "a", value).value, value)


if __name__ == "__main__":
    unittest.main()
