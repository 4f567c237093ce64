"""Promises [2], [13] and [14]: integers, words, names, letters, and tuples of integers."""

import inspect
import unittest

from sample_values import any_values, raised
from seenchoices import words
from seenchoices.errors import InvalidPart
from seenchoices.words import is_integer, is_letter, is_name, is_word, price, scaled

ALPHABET = "abcdefghijklmnopqrstuvwxyz"
NO_LETTERS = [chr(code) for code in range(128) if chr(code) not in ALPHABET] + ["\u00e9", "\u0430", "\u00df"]


class IntegerTest(unittest.TestCase):
    def test_from_low_to_high(self):
        found = [is_integer(value, -2, 3) for value in range(-4, 6)]
        self.assertEqual(found, [False, False, True, True, True, True, True, True, False, False])

    def test_one_integer_and_none(self):
        self.assertIs(is_integer(5, 5, 5), True)
        self.assertIs(is_integer(5, 6, 4), False)

    def test_large_integers(self):
        big = 10 ** 30
        self.assertIs(is_integer(big, 0, big), True)
        self.assertIs(is_integer(big + 1, 0, big), False)
        self.assertIs(is_integer(-big, -big, 0), True)
        self.assertIs(is_integer(-big - 1, -big, 0), False)

    def test_true_and_false_are_no_integers(self):
        for value in (True, False):
            self.assertIs(is_integer(value, 0, 1), False)
            self.assertIs(is_integer(value, -10, 10), False)

    def test_other_kinds(self):
        for value in any_values():
            wanted = value.__class__ is int
            self.assertIs(is_integer(value, -10 ** 40, 10 ** 40), wanted, repr(value))


class WordTest(unittest.TestCase):
    def test_lengths(self):
        for length in range(12):
            self.assertIs(is_word("a" * length), length <= 6)
            self.assertIs(is_name("a" * length), 1 <= length <= 8)
            self.assertIs(is_letter("a" * length), length == 1)

    def test_each_letter(self):
        for letter in ALPHABET:
            for check in (is_word, is_name, is_letter):
                self.assertIs(check(letter), True)

    def test_other_signs(self):
        for sign in NO_LETTERS:
            self.assertIs(is_letter(sign), False, repr(sign))
            for text in (sign, sign + "ab", "a" + sign + "b", "ab" + sign):
                self.assertIs(is_word(text), False, repr(text))
                self.assertIs(is_name(text), False, repr(text))

    def test_words_and_names(self):
        for text in ("a", "zz", "house", "seven", "sevens", "abcdef"):
            self.assertIs(is_word(text), True)
            self.assertIs(is_name(text), True)
        for text in ("sevenths", "abcdefg", "letters"):
            self.assertIs(is_word(text), False)
            self.assertIs(is_name(text), True)
        self.assertIs(is_word(""), True)
        self.assertIs(is_name(""), False)

    def test_other_kinds(self):
        for value in any_values():
            for check in (is_word, is_name, is_letter):
                self.assertIs(check(value), False, repr(value))
        for value in (b"a", b"", ["a", "b"], ("a",), {"a": 1}):
            for check in (is_word, is_name, is_letter):
                self.assertIs(check(value), False, repr(value))

    def test_names_of_parameters(self):
        self.assertIs(is_integer(value=2, low=1, high=3), True)
        for check in (is_word, is_name, is_letter):
            self.assertIs(check(value="a"), True)


class ScaledTest(unittest.TestCase):
    def test_divided_by_the_greatest_common_divisor(self):
        for numbers, wanted in [
            ((4, -6, 0), (2, -3, 0)), ((6,), (1,)), ((-6,), (-1,)), ((2, 3), (2, 3)), ((-4, -8), (-1, -2)),
            ((0, 5), (0, 1)), ((0, -5, 0), (0, -1, 0)), ((6, 10, 15), (6, 10, 15)), ((12, 18, 30), (2, 3, 5)),
            ((1, 1), (1, 1)), ((-7, 7), (-1, 1)), ((-3, 2), (-3, 2)),
        ]:
            self.assertEqual(scaled(numbers), wanted)

    def test_zeros_and_no_integers(self):
        for numbers in [(), (0,), (0, 0), (0, 0, 0, 0, 0)]:
            self.assertEqual(scaled(numbers), numbers)
            self.assertEqual(scaled(list(numbers)), numbers)

    def test_large_integers(self):
        big = 10 ** 40 + 1
        self.assertEqual(scaled((2 * big, -6 * big, 0)), (1, -3, 0))
        self.assertEqual(scaled((big, big + 1)), (big, big + 1))
        self.assertEqual(scaled((-3 * 10 ** 5000,)), (-1,))

    def test_results_are_tuples_of_integers(self):
        for numbers in [(2, 4), [2, 4], (3, 5), [3, 5], [0], []]:
            self.assertIs(scaled(numbers).__class__, tuple)
            self.assertTrue(all(item.__class__ is int for item in scaled(numbers)))

    def test_lists_stay_as_they_were(self):
        numbers = [4, -6]
        scaled(numbers)
        self.assertEqual(numbers, [4, -6])

    def test_wrong_values(self):
        wrong = ["", "ab", {}, {1: 2}, None, True, False, 3, (1, True), [False], (1, None), (1, "2"), ((1,),),
                 [1, [2]], (0, 0, "0")]
        for value in wrong:
            self.assertIs(raised(InvalidPart, scaled, value).value, value)
        self.assertIs(raised(InvalidPart, scaled, numbers=wrong).value, wrong)


class PriceTest(unittest.TestCase):
    def test_sum_of_products(self):
        for counts, numbers, wanted in [
            ((2, 0, 1), (3, 5, -4), 2), ((), (), 0), ((0, 0), (5, 7), 0), ((3,), (-4,), -12), ((-3,), (-4,), 12),
            ((1, 2, 3, 4, 5), (5, 4, 3, 2, 1), 35), ((10 ** 30, 1), (10 ** 30, -1), 10 ** 60 - 1),
        ]:
            self.assertEqual(price(counts, numbers), wanted)
            self.assertEqual(price(list(counts), numbers), wanted)
            self.assertEqual(price(counts, list(numbers)), wanted)
            self.assertEqual(price(counts=list(counts), numbers=list(numbers)), wanted)
            self.assertIs(price(counts, numbers).__class__, int)

    def test_lists_stay_as_they_were(self):
        counts, numbers = [1, 2], [3, 4]
        price(counts, numbers)
        self.assertEqual((counts, numbers), ([1, 2], [3, 4]))

    def test_wrong_values(self):
        for value in ["", "a", {}, None, True, 1, (True,), ["1"], ((1,),), (None,)]:
            self.assertIs(raised(InvalidPart, price, value, (1,)).value, value)
            self.assertIs(raised(InvalidPart, price, (1,), value).value, value)

    def test_other_lengths(self):
        for counts, numbers in [((), (1,)), ((1,), ()), ((1, 2), (1,)), ([1], [1, 2]), ((1, 2), [1, 2, 3])]:
            self.assertIs(raised(InvalidPart, price, counts, numbers).value, numbers)

    def test_counts_are_checked_first(self):
        counts, numbers = ["1"], [True, 2]
        self.assertIs(raised(InvalidPart, price, counts, numbers).value, counts)
        self.assertIs(raised(InvalidPart, price, counts, (1, 2)).value, counts)


class InterfaceTest(unittest.TestCase):
    def test_names_of_parameters(self):
        for name, wanted in [
            ("is_integer", ["value", "low", "high"]), ("is_word", ["value"]), ("is_name", ["value"]),
            ("is_letter", ["value"]), ("scaled", ["numbers"]), ("price", ["counts", "numbers"]),
        ]:
            function = getattr(words, name)
            self.assertEqual(list(inspect.signature(function).parameters), wanted)
            self.assertEqual(function.__module__, "seenchoices.words")


if __name__ == "__main__":
    unittest.main()
