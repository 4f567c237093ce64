"""Promise [34]: the list of all edit rows between two words, and how many they are."""

import unittest

from listing import lead, listed, some_pairs, some_schemes, words_over
from sample_values import any_values, plain_scheme, raised
from seenchoices.errors import InvalidWord, NotScheme
from seenchoices.rows import is_row, row_count, rows_between, written
from seenchoices.schemes import Scheme


def as_tuples(rows):
    return sorted(tuple(row) for row in rows)


class RowsBetweenTest(unittest.TestCase):
    def test_all_rows_each_one_once(self):
        for scheme in some_schemes():
            for one, other in some_pairs():
                rows = list(rows_between(scheme, one, other))
                self.assertEqual(as_tuples(rows), sorted(listed(scheme, one, other)))
                self.assertEqual(row_count(scheme, one, other), len(rows))

    def test_every_row_leads_there(self):
        for scheme in some_schemes():
            for row in rows_between(scheme, "abcde", "badce"):
                self.assertEqual(lead(scheme, "abcde", row), "badce")
                self.assertTrue(is_row(scheme, "abcde", row))
                self.assertEqual(written(scheme, "abcde", row), "badce")

    def test_no_row_is_missing(self):
        # Each list of up to four steps is tried, so nothing here depends on how rows are found.
        scheme = plain_scheme()
        steps = [("keep",), ("drop",), ("turn",), ("add", "a"), ("add", "b"), ("swap", "a"), ("swap", "b")]
        tried = [()]
        for row in tried:
            if len(row) < 4:
                tried += [(*row, step) for step in steps]
        for one in words_over("ab", 2):
            found = {}
            for row in tried:
                found.setdefault(lead(scheme, one, row), []).append(row)
            for other in words_over("ab", 2):
                self.assertEqual(as_tuples(rows_between(scheme, one, other)), sorted(found[other]), (one, other))

    def test_equal_and_empty_words(self):
        scheme = plain_scheme()
        self.assertEqual(list(rows_between(scheme, "", "")), [[]])
        self.assertEqual(list(rows_between(scheme, "ab", "")), [[("drop",), ("drop",)]])
        self.assertEqual(list(rows_between(scheme, "", "ab")), [[("add", "a"), ("add", "b")]])
        self.assertEqual(as_tuples(rows_between(scheme, "a", "a")),
                         [(("add", "a"), ("drop",)), (("drop",), ("add", "a")), (("keep",),)])
        self.assertEqual([row_count(scheme, "", ""), row_count(scheme, "aaa", "aaa")], [1, 63])

    def test_long_words(self):
        # Without turns these are the Delannoy numbers: the letters do not matter.
        plain, turns = some_schemes()[0], some_schemes()[2]
        self.assertEqual([row_count(plain, "abcdef", "ghijkl"), row_count(plain, "aaaaaa", "aaaaaa")], [8989, 8989])
        self.assertEqual([row_count(turns, "ababab", "bababa"), row_count(turns, "abcdef", "abcdef")], [10515, 8989])
        rows = as_tuples(rows_between(turns, "ababab", "bababa"))
        self.assertEqual(rows, sorted(listed(turns, "ababab", "bababa")))
        self.assertEqual(len(set(rows)), 10515)

    def test_turns_only_where_the_letters_are_different_and_exchanged(self):
        scheme = plain_scheme()
        for one, other, many in [("ab", "ba", 14), ("aa", "aa", 13), ("ab", "ab", 13), ("ab", "bb", 13),
                                 ("ab", "aa", 13), ("ab", "ca", 13), ("ba", "cb", 13)]:
            self.assertEqual(row_count(scheme, one, other), many, (one, other))
        self.assertEqual(row_count(some_schemes()[0], "ab", "ba"), 13)

    def test_rows_are_new_lists_of_tuples(self):
        scheme = plain_scheme()
        expected = [list(row) for row in rows_between(scheme, "abc", "bca")]
        found = []
        for row in rows_between(scheme, "abc", "bca"):
            self.assertIs(row.__class__, list)
            self.assertTrue(all(step.__class__ is tuple for step in row))
            found.append(list(row))
            row.clear()
        self.assertEqual(found, expected)

    def test_by_name(self):
        scheme = plain_scheme()
        self.assertEqual(as_tuples(rows_between(scheme=scheme, one="ab", other="b")),
                         as_tuples(rows_between(scheme, "ab", "b")))
        self.assertEqual(row_count(scheme=scheme, one="ab", other="b"), 5)

    def test_the_way_back(self):
        for scheme in some_schemes():
            for one, other in some_pairs():
                self.assertEqual(row_count(scheme, one, other), row_count(scheme, other, one))
                self.assertEqual(row_count(scheme, one, other), row_count(scheme, one[::-1], other[::-1]))


class ErrorsTest(unittest.TestCase):
    def calls(self):
        return [row_count, lambda *args: next(rows_between(*args))]

    def test_in_their_order(self):
        for call in self.calls():
            for value in any_values() + ["abcdefg"]:
                if not isinstance(value, Scheme):
                    self.assertIs(raised(NotScheme, call, value, value, value).value, value)
                    self.assertIs(raised(NotScheme, call, value, "a", "b").value, value)
                self.assertIs(raised(InvalidWord, call, plain_scheme(), value, 7).value, value)
                self.assertIs(raised(InvalidWord, call, plain_scheme(), value, "a").value, value)
                self.assertIs(raised(InvalidWord, call, plain_scheme(), "a", value).value, value)


if __name__ == "__main__":
    unittest.main()
