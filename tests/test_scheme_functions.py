"""Promises [4], [24] and [25]: costs as dicts and as tuples, and schemes made from schemes."""

import unittest

from sample_values import any_values, plain_scheme, raised
from seenchoices.errors import Duplicate, InvalidCosts, InvalidName, NotScheme, UnknownCost
from seenchoices.schemes import (
    Scheme, costs_of, merged, numbers_of, renamed, without_groups, without_turns,
)


def full_scheme():
    return Scheme(["p", "q", "r", "s"], add="p", drop="q", swap="r", groups=[("xyz", "s"), ("ae", "q"), ("io", "s")],
                  turn="s")


def parts_of(scheme):
    return (scheme.costs, scheme.cost_to_add, scheme.cost_to_drop, scheme.cost_to_swap, scheme.groups,
            scheme.cost_to_turn)


def no_schemes():
    return [value for value in any_values() if not isinstance(value, Scheme)] + [Scheme, "edit"]


class CostsOfTest(unittest.TestCase):
    def test_values_in_the_order_of_the_scheme(self):
        self.assertEqual(costs_of(full_scheme(), (4, 3, 2, 1)), {"p": 4, "q": 3, "r": 2, "s": 1})
        self.assertEqual(costs_of(full_scheme(), [1, 1, 10 ** 30, 7]), {"p": 1, "q": 1, "r": 10 ** 30, "s": 7})
        self.assertEqual(costs_of(scheme=plain_scheme(), numbers=(3, 1, 5)), {"edit": 3, "near": 1, "turn": 5})
        self.assertEqual(list(costs_of(plain_scheme(), (3, 1, 5))), ["edit", "near", "turn"])

    def test_one_cost(self):
        scheme = Scheme(["e"], add="e", drop="e", swap="e")
        self.assertEqual(costs_of(scheme, (9,)), {"e": 9})
        self.assertEqual(numbers_of(scheme, {"e": 9}), (9,))

    def test_results_are_new_dicts(self):
        scheme, numbers = plain_scheme(), [3, 1, 5]
        first = costs_of(scheme, numbers)
        self.assertIs(first.__class__, dict)
        first["edit"] = 8
        self.assertEqual(costs_of(scheme, numbers), {"edit": 3, "near": 1, "turn": 5})
        self.assertEqual(numbers, [3, 1, 5])

    def test_wrong_numbers(self):
        wrong = any_values() + [
            (1, 2), (1, 2, 3, 4), [], (1, 2, 0), (0, 1, 1), (1, -1, 1), (1, True, 1), (1, 1, False), (1, None, 1),
            (1, "1", 1), ((1,), 1, 1), "abc", "123", {0: 1, 1: 1, 2: 1}, {"edit": 1, "near": 1, "turn": 1},
            [1, 1, [1]],
        ]
        for value in wrong:
            self.assertIs(raised(InvalidCosts, costs_of, plain_scheme(), value).value, value)

    def test_wrong_schemes(self):
        for value in no_schemes():
            self.assertIs(raised(NotScheme, costs_of, value, (1,)).value, value)
            self.assertIs(raised(NotScheme, costs_of, value, "wrong").value, value)


class NumbersOfTest(unittest.TestCase):
    def test_keys_in_any_order(self):
        for costs in [{"edit": 3, "near": 1, "turn": 5}, {"turn": 5, "near": 1, "edit": 3},
                      {"near": 1, "turn": 5, "edit": 3}]:
            before = list(costs.items())
            self.assertEqual(numbers_of(plain_scheme(), costs), (3, 1, 5))
            self.assertEqual(numbers_of(scheme=plain_scheme(), costs=costs), (3, 1, 5))
            self.assertEqual(list(costs.items()), before)

    def test_there_and_back(self):
        scheme = full_scheme()
        for numbers in [(1, 1, 1, 1), (4, 3, 2, 1), (1, 2, 10 ** 6, 10 ** 40)]:
            self.assertEqual(numbers_of(scheme, costs_of(scheme, numbers)), numbers)
            self.assertEqual(numbers_of(scheme, costs_of(scheme, list(numbers))), numbers)
            self.assertIs(numbers_of(scheme, costs_of(scheme, numbers)).__class__, tuple)

    def test_wrong_costs(self):
        wrong = any_values() + [
            (3, 1, 5), ["edit", "near", "turn"], ("edit", "near", "turn"), {"edit": 3, "near": 1},
            {"edit": 3, "near": 1, "turn": 5, "more": 1}, {"edit": 3, "near": 1, "turns": 5},
            {"edit": 3, "near": 1, "turn": 0}, {"edit": -3, "near": 1, "turn": 1},
            {"edit": True, "near": 1, "turn": 1}, {"edit": 1, "near": None, "turn": 1},
            {"edit": 1, "near": "1", "turn": 1}, {"edit": 1, "near": [1], "turn": 1}, {0: 3, 1: 1, 2: 5},
            {"edit": 3, "near": 1, 2: 5}, {"edit": 3, "near": 1, "turn": 5, 3: 1},
        ]
        for value in wrong:
            self.assertIs(raised(InvalidCosts, numbers_of, plain_scheme(), value).value, value)

    def test_wrong_schemes(self):
        for value in no_schemes():
            self.assertIs(raised(NotScheme, numbers_of, value, {"edit": 1}).value, value)
            self.assertIs(raised(NotScheme, numbers_of, value, None).value, value)


class RenamedTest(unittest.TestCase):
    def test_everything_that_had_the_name(self):
        scheme = full_scheme()
        self.assertEqual(parts_of(renamed(scheme, "p", "new")), (
            ("new", "q", "r", "s"), "new", "q", "r", (("xyz", "s"), ("ae", "q"), ("io", "s")), "s"))
        self.assertEqual(parts_of(renamed(scheme, "q", "new")), (
            ("p", "new", "r", "s"), "p", "new", "r", (("xyz", "s"), ("ae", "new"), ("io", "s")), "s"))
        self.assertEqual(parts_of(renamed(scheme, "r", "new")), (
            ("p", "q", "new", "s"), "p", "q", "new", (("xyz", "s"), ("ae", "q"), ("io", "s")), "s"))
        self.assertEqual(parts_of(renamed(scheme=scheme, cost="s", new="new")), (
            ("p", "q", "r", "new"), "p", "q", "r", (("xyz", "new"), ("ae", "q"), ("io", "new")), "new"))
        self.assertEqual(parts_of(scheme), parts_of(full_scheme()))

    def test_there_and_back(self):
        scheme = full_scheme()
        self.assertEqual(renamed(renamed(scheme, "s", "abcdefgh"), "abcdefgh", "s"), scheme)

    def test_without_turns_and_groups(self):
        scheme = Scheme(["e", "f"], add="e", drop="f", swap="e")
        self.assertEqual(parts_of(renamed(scheme, "e", "g")), (("g", "f"), "g", "f", "g", (), None))

    def test_the_same_name(self):
        scheme = full_scheme()
        found = renamed(scheme, "q", "q")
        self.assertEqual(parts_of(found), parts_of(scheme))
        self.assertIsNot(found, scheme)

    def test_wrong_arguments(self):
        scheme = full_scheme()
        for value in no_schemes():
            self.assertIs(raised(NotScheme, renamed, value, "x", "Y").value, value)
        for value in any_values() + ["", "pq", "ae"]:
            self.assertIs(raised(UnknownCost, renamed, scheme, value, "Y").label, value)
        for value in any_values() + ["", "abcdefghi"]:
            self.assertIs(raised(InvalidName, renamed, scheme, "p", value).value, value)
        for value in ("q", "r", "s"):
            self.assertEqual(raised(Duplicate, renamed, scheme, "p", value).label, value)
        self.assertEqual(parts_of(scheme), parts_of(full_scheme()))

    def test_the_very_object(self):
        scheme = renamed(full_scheme(), "p", "longer")
        again = "".join(["lon", "ger"])
        self.assertIs(raised(Duplicate, renamed, scheme, "q", again).label, again)
        later = renamed(full_scheme(), "s", "longer")
        self.assertIs(raised(Duplicate, renamed, later, "q", again).label, again)


class MergedTest(unittest.TestCase):
    def test_everything_that_had_the_other_cost(self):
        scheme = full_scheme()
        self.assertEqual(parts_of(merged(scheme, "p", "q")), (
            ("p", "r", "s"), "p", "p", "r", (("xyz", "s"), ("ae", "p"), ("io", "s")), "s"))
        self.assertEqual(parts_of(merged(scheme, "q", "p")), (
            ("q", "r", "s"), "q", "q", "r", (("xyz", "s"), ("ae", "q"), ("io", "s")), "s"))
        self.assertEqual(parts_of(merged(scheme, "p", "r")), (
            ("p", "q", "s"), "p", "q", "p", (("xyz", "s"), ("ae", "q"), ("io", "s")), "s"))
        self.assertEqual(parts_of(merged(scheme=scheme, one="q", other="s")), (
            ("p", "q", "r"), "p", "q", "r", (("xyz", "q"), ("ae", "q"), ("io", "q")), "q"))
        self.assertEqual(parts_of(scheme), parts_of(full_scheme()))

    def test_down_to_one_cost(self):
        scheme = merged(merged(merged(full_scheme(), "r", "p"), "r", "s"), "r", "q")
        self.assertEqual(parts_of(scheme), (
            ("r",), "r", "r", "r", (("xyz", "r"), ("ae", "r"), ("io", "r")), "r"))

    def test_without_turns_and_groups(self):
        scheme = Scheme(["e", "f"], add="e", drop="f", swap="e")
        self.assertEqual(parts_of(merged(scheme, "f", "e")), (("f",), "f", "f", "f", (), None))

    def test_wrong_arguments(self):
        scheme = full_scheme()
        for value in no_schemes():
            self.assertIs(raised(NotScheme, merged, value, "x", "x").value, value)
        for value in any_values() + ["", "pq"]:
            self.assertIs(raised(UnknownCost, merged, scheme, value, "q").label, value)
            self.assertIs(raised(UnknownCost, merged, scheme, "q", value).label, value)
            self.assertIs(raised(UnknownCost, merged, scheme, value, value).label, value)
        self.assertEqual(raised(UnknownCost, merged, scheme, "x", "y").label, "x")
        for value in ("p", "q", "r", "s"):
            self.assertEqual(raised(Duplicate, merged, scheme, value, value).label, value)
        one = Scheme(["edit"], add="edit", drop="edit", swap="edit")
        again = "".join(["ed", "it"])
        self.assertIs(raised(Duplicate, merged, one, "edit", again).label, again)


class WithoutTest(unittest.TestCase):
    def test_without_turns(self):
        scheme = full_scheme()
        wanted = (("p", "q", "r", "s"), "p", "q", "r", (("xyz", "s"), ("ae", "q"), ("io", "s")), None)
        self.assertEqual(parts_of(without_turns(scheme)), wanted)
        self.assertEqual(parts_of(without_turns(scheme=without_turns(scheme))), wanted)
        self.assertEqual(parts_of(scheme), parts_of(full_scheme()))

    def test_without_groups(self):
        scheme = full_scheme()
        wanted = (("p", "q", "r", "s"), "p", "q", "r", (), "s")
        self.assertEqual(parts_of(without_groups(scheme)), wanted)
        self.assertEqual(parts_of(without_groups(scheme=without_groups(scheme))), wanted)
        self.assertEqual(parts_of(without_turns(without_groups(scheme))), wanted[:5] + (None,))
        self.assertEqual(parts_of(scheme), parts_of(full_scheme()))

    def test_new_schemes(self):
        scheme = Scheme(["e"], add="e", drop="e", swap="e")
        for function in (without_turns, without_groups):
            self.assertEqual(function(scheme), scheme)
            self.assertIsNot(function(scheme), scheme)

    def test_wrong_schemes(self):
        for value in no_schemes():
            for function in (without_turns, without_groups):
                self.assertIs(raised(NotScheme, function, value).value, value)


if __name__ == "__main__":
    unittest.main()
