"""Promises [61] to [63]: rows of numbers, integers that keep them, and sums that show that there are none."""

import copy
import itertools
import random
import unittest

from sample_values import any_values, plain_scheme, raised
from seenchoices.errors import InvalidInteger, InvalidPart, InvalidRow
from seenchoices.systems import keeps, settle, shows_sum

LONG = 10 ** 29


def product_sum(one, other):
    return sum(a * b for a, b in zip(one, other))


def is_kept(numbers, row):
    return product_sum(numbers, row[0]) > (-1 if not row[1] else 0)


def is_shown(many, rows, amounts):
    """True if a tuple of integers shows what promise [62] says of a sum."""
    if len(amounts) != len(rows) or any(amount < 0 for amount in amounts):
        return False
    total = [sum(amount * row[0][at] for amount, row in zip(amounts, rows)) for at in range(many)]
    if any(number > 0 for number in total):
        return False
    return any(number < 0 for number in total) or any(row[1] and amount for amount, row in zip(amounts, rows))


def rows_that_can_be_kept(numbers, many_rows, size, source):
    """Rows that the numbers keep, some of them with the sum 0; strict ones where they may be."""
    rows = []
    while len(rows) < many_rows:
        row = [source.randint(-size, size) for _ in numbers]
        if source.random() < 0.5:
            row[-1] -= product_sum(row, numbers) // numbers[-1]
        total = product_sum(row, numbers)
        if total < 0:
            row, total = [-number for number in row], -total
        rows.append((tuple(row), total > 0 and source.random() < 0.5))
    return rows


def last_row_against(rows, source):
    """A row that contradicts others: it is against their sum, and one of them is strict or the sum is less."""
    many = len(rows[0][0])
    amounts = [source.randint(0, 3) for _ in rows]
    total = [sum(amount * row[0][at] for amount, row in zip(amounts, rows)) for at in range(many)]
    if source.random() < 0.5:
        return (tuple(-number for number in total), True)
    total[source.randrange(many)] += 1
    return (tuple(-number for number in total), False)


class KeepsTest(unittest.TestCase):
    def test_sums_below_at_and_above_zero(self):
        for numbers, row, expected in [((3, 1), (1, -2), True), ((2, 1), (1, -2), True), ((1, 1), (1, -2), False),
                                       ((1,), (0,), True), ((5,), (-1,), False), ((1, 2, 3, 4), (0, 0, -4, 3), True),
                                       ((LONG, LONG + 1), (LONG + 1, -LONG), True),
                                       ((LONG, LONG + 1), (LONG, 1 - LONG), True),
                                       ((LONG, LONG + 2), (LONG, 1 - LONG), False)]:
            self.assertIs(keeps(numbers, (row, False)), expected)
            self.assertIs(keeps(numbers, (row, True)), product_sum(numbers, row) > 0)
            self.assertIs(keeps(numbers=list(numbers), row=[list(row), False]), expected)

    def test_strict_rows(self):
        self.assertIs(keeps((2, 1), ((1, -2), True)), False)
        self.assertIs(keeps((2, 1), ((1, -2), False)), True)
        self.assertIs(keeps((1, 1), ((0, 0), True)), False)
        self.assertIs(keeps((1, 1), ((0, 0), False)), True)

    def test_wrong_numbers_come_first(self):
        wrong = [value for value in any_values() if value != (1, 2)] + [
            [0], (0, 1), (1, 0), (-1,), (True,), (1, True), (1, 1, 1, 1, 1), "1", (1, "1"), {0: 1}, [[1]], (1, None),
        ]
        for value in wrong:
            self.assertIs(raised(InvalidPart, keeps, value, ((1, 1), False)).value, value)
            self.assertIs(raised(InvalidPart, keeps, value, "wrong").value, value)

    def test_wrong_rows(self):
        for value in wrong_rows():
            self.assertIs(raised(InvalidRow, keeps, (1, 1), value).value, value)
        for many in (1, 2, 3, 4):
            for other in (0, 1, 2, 3, 4, 5):
                row = ((1,) * other, False)
                if many != other:
                    self.assertIs(raised(InvalidRow, keeps, (1,) * many, row).value, row)
                else:
                    self.assertIs(keeps((1,) * many, row), True)


def wrong_rows():
    """Values of any kind that are no row for two costs."""
    return any_values() + [
        (), ((1, 1),), ((1, 1), False, False), ((1, 1), 0), ((1, 1), 1), ((1, 1), None), ((1, 1), "True"),
        ((1,), False), ((1, 1, 1), False), ((1, True), False), ((False, 1), False), ((1, None), True), (1, True),
        ("ab", False), (False, (1, 1)), {0: (1, 1), 1: False}, (((1,), (1,)), False), ({0: 1, 1: 1}, True),
        ((1, "1"), True), [[1, 1], [False]],
    ]


class SettleTest(unittest.TestCase):
    def check(self, many, rows):
        """Ask for the answer, test it against the words of the promise, and return which one it is."""
        before = copy.deepcopy(rows)
        answer = settle(many, rows)
        self.assertEqual(rows, before)
        self.assertEqual([answer.__class__, len(answer), answer[1].__class__], [tuple, 2, tuple])
        self.assertTrue(all(number.__class__ is int for number in answer[1]))
        if answer[0] == "costs":
            self.assertEqual(len(answer[1]), many)
            self.assertTrue(all(number >= 1 for number in answer[1]))
            for row in rows:
                self.assertTrue(is_kept(answer[1], row), (rows, answer))
                self.assertIs(keeps(answer[1], row), True)
            self.assertIs(shows_sum(many, rows, (0,) * len(rows)), False)
            self.assertIs(shows_sum(many, rows, (1,) * len(rows)), False)
        else:
            self.assertEqual(answer[0], "sum")
            self.assertTrue(is_shown(many, rows, answer[1]), (rows, answer))
            self.assertIs(shows_sum(many, rows, answer[1]), True)
        return answer[0]

    def test_no_rows_and_rows_of_zeros(self):
        for many in (1, 2, 3, 4):
            zeros = (0,) * many
            self.assertEqual(self.check(many, []), "costs")
            self.assertEqual(self.check(many, [(zeros, False)]), "costs")
            self.assertEqual(self.check(many, [(zeros, True)]), "sum")
            self.assertEqual(self.check(many, [(zeros, False), ((-1,) * many, False)]), "sum")
            self.assertEqual(self.check(many, [((1,) * many, True)]), "costs")

    def test_one_cost(self):
        for numbers in itertools.product((-2, -1, 0, 1, 2), repeat=2):
            for strict in itertools.product((False, True), repeat=2):
                rows = [((number,), sign) for number, sign in zip(numbers, strict)]
                possible = all(number > 0 or (number == 0 and not sign) for (number,), sign in rows)
                self.assertEqual(self.check(1, rows), "costs" if possible else "sum")

    def test_two_costs_against_trying_all(self):
        # With numbers up to 2, the quotients at which rows change are told apart by costs up to 6.
        signs = list(itertools.product((-2, -1, 0, 1, 2), repeat=2))
        tried = list(itertools.product(range(1, 7), repeat=2))
        for one, other in itertools.combinations(signs, 2):
            for strict in itertools.product((False, True), repeat=2):
                rows = [(one, strict[0]), (other, strict[1])]
                possible = any(all(is_kept(numbers, row) for row in rows) for numbers in tried)
                self.assertEqual(self.check(2, rows), "costs" if possible else "sum", rows)

    def test_three_costs_against_trying_all(self):
        source = random.Random(63)
        tried = list(itertools.product(range(1, 9), repeat=3))
        for _ in range(150):
            rows = [(tuple(source.randint(-1, 1) for _ in range(3)), source.random() < 0.5) for _ in range(3)]
            possible = any(all(is_kept(numbers, row) for row in rows) for numbers in tried)
            self.assertEqual(self.check(3, rows), "costs" if possible else "sum", rows)

    def test_rows_that_can_be_kept(self):
        source = random.Random(61)
        for size in (1, 3, 100, LONG):
            for many in (1, 2, 3, 4):
                for length in (1, 2, 5, 20, 60):
                    numbers = [source.randint(1, size) for _ in range(many)]
                    self.assertEqual(self.check(many, rows_that_can_be_kept(numbers, length, size, source)), "costs")

    def test_rows_that_cannot_be_kept(self):
        source = random.Random(62)
        for size in (1, 3, 100, LONG):
            for many in (1, 2, 3, 4):
                for length in (1, 2, 5, 20, 60):
                    numbers = [source.randint(1, size) for _ in range(many)]
                    rows = rows_that_can_be_kept(numbers, length, size, source)
                    rows.insert(source.randint(0, length), last_row_against(rows, source))
                    self.assertEqual(self.check(many, rows), "sum")

    def test_rows_of_any_numbers(self):
        source = random.Random(60)
        seen = {"costs": 0, "sum": 0}
        for at in range(600):
            many, size = at % 4 + 1, (1, 2, 9, 100, LONG)[at % 5]
            rows = [(tuple(source.randint(-size, size) for _ in range(many)), source.random() < 0.5)
                    for _ in range(source.randint(1, 7))]
            seen[self.check(many, rows)] += 1
        self.assertGreater(min(seen.values()), 100)

    def test_just_one_quotient_is_left(self):
        rows = [((LONG, -LONG - 1), False), ((-LONG, LONG + 1), False)]
        self.assertEqual(settle(2, rows), ("costs", (LONG + 1, LONG)))
        self.assertEqual(self.check(2, rows + [((1, -1), True)]), "costs")
        self.assertEqual(self.check(2, rows + [((-1, 1), False)]), "sum")
        for index in (0, 1):
            strict = [(row[0], at == index) for at, row in enumerate(rows)]
            self.assertEqual(self.check(2, strict), "sum")

    def test_many_rows(self):
        source = random.Random(64)
        for size in (2, 100, LONG):
            numbers = [source.randint(1, size) for _ in range(4)]
            rows = rows_that_can_be_kept(numbers, 1000, size, source)
            self.assertEqual(self.check(4, rows), "costs")
            self.assertEqual(self.check(4, rows + [last_row_against(rows, source)]), "sum")

    def test_the_same_row_many_times(self):
        self.assertEqual(self.check(2, [((1, -1), True)] * 50), "costs")
        self.assertEqual(self.check(2, [((1, -1), True)] * 50 + [((-1, 1), False)] * 50), "sum")

    def test_lists_and_names(self):
        rows = [[[1, -2], False], [[-1, 1], True]]
        self.assertEqual(settle(2, rows), settle(2, [((1, -2), False), ((-1, 1), True)]))
        self.assertEqual(settle(many=2, rows=tuple(rows))[0], "sum")
        self.assertIs(shows_sum(many=2, rows=tuple(rows), amounts=(1, 1)), True)
        self.assertEqual(self.check(2, rows), "sum")
        self.assertEqual(self.check(2, (((1, -2), False),)), "costs")


class ShowsSumTest(unittest.TestCase):
    def test_amounts_close_to_an_answer(self):
        source = random.Random(65)
        seen = {True: 0, False: 0}
        for at in range(300):
            many, size = at % 4 + 1, (1, 3, LONG)[at % 3]
            rows = rows_that_can_be_kept([source.randint(1, size) for _ in range(many)], 3, size, source)
            rows.append(last_row_against(rows, source))
            amounts = settle(many, rows)[1]
            for place in range(len(amounts)):
                for other in (amounts[place] + 1, amounts[place] - 1, 0, -amounts[place], LONG):
                    changed = (*amounts[:place], other, *amounts[place + 1:])
                    expected = is_shown(many, rows, changed)
                    seen[expected] += 1
                    self.assertIs(shows_sum(many, rows, changed), expected)
        self.assertGreater(min(seen.values()), 500)

    def test_a_number_below_zero_or_a_strict_row(self):
        rows = [((1, -1), False), ((-1, 1), False), ((-1, 0), False), ((-1, 1), True)]
        for amounts, expected in [((0, 0, 0, 0), False), ((1, 1, 0, 0), False), ((0, 0, 1, 0), True),
                                  ((1, 0, 0, 1), True), ((2, 1, 0, 1), True), ((2, 1, 0, 0), False),
                                  ((1, 0, 1, 0), True), ((0, 0, 0, 1), False), ((0, 0, 9, 0), True)]:
            self.assertIs(shows_sum(2, rows, amounts), expected, amounts)

    def test_without_rows(self):
        for amounts in [(), (0,), [], None]:
            self.assertIs(shows_sum(1, [], amounts), False)

    def test_values_of_any_kind(self):
        rows = [((1, -2), False), ((-1, 1), True)]
        wrong = any_values() + [
            [1, 1], (1,), (1, 1, 0), (1, True), (True, True), (1, -1), (-1, -1), (1, "1"), ("1", "1"), (1, None),
            ((1,), (1,)), {0: 1, 1: 1}, ((1, 1),), ("sum", (1, 1)), (0, 0), "11",
        ]
        self.assertIs(shows_sum(2, rows, (1, 1)), True)
        for value in wrong:
            self.assertIs(shows_sum(2, rows, value), value == (1, 2) and isinstance(value, tuple), value)

    def test_arguments_stay(self):
        rows = [[[1, -2], False], [[-1, 1], True]]
        before = copy.deepcopy(rows)
        shows_sum(2, rows, (1, 1))
        keeps([1, 1], rows[0])
        self.assertEqual(rows, before)


class ErrorsTest(unittest.TestCase):
    def calls(self):
        return [settle, lambda many, rows: shows_sum(many, rows, "wrong")]

    def test_how_many_costs(self):
        for call in self.calls():
            for value in any_values() + [5, 0, -1, 10 ** 30, (2,), "2"]:
                if value != 1 or isinstance(value, bool):
                    self.assertIs(raised(InvalidInteger, call, value, []).value, value)
                    self.assertIs(raised(InvalidInteger, call, value, "wrong").value, value)

    def test_lists_of_rows(self):
        for call in self.calls():
            for value in [None, True, 3, "rows", "", {}, {0: ((1, 1), False)}, plain_scheme()]:
                self.assertIs(raised(InvalidPart, call, 2, value).value, value)

    def test_the_first_wrong_row(self):
        right = ((1, 1), False)
        for call in self.calls():
            for value in wrong_rows():
                for rows in ([value], (right, value, 7), [right, [[1, 1], True], value, value]):
                    self.assertIs(raised(InvalidRow, call, 2, rows).value, value)


if __name__ == "__main__":
    unittest.main()
