"""Promises [3], [8], [9], [10], [21], [22] and [23]: schemes, what they are made of, and costs of steps."""

import inspect
import unittest

from sample_values import any_values, plain_scheme, raised
from seenchoices import schemes
from seenchoices.errors import (
    Duplicate, InvalidGroup, InvalidLetter, InvalidName, InvalidPart, InvalidStep, UnknownCost,
)
from seenchoices.schemes import Scheme


def made(costs=("edit", "near", "turn"), **more):
    """A scheme in which all edits cost "edit", but for what is told otherwise."""
    parts = {"add": "edit", "drop": "edit", "swap": "edit"}
    parts.update(more)
    return Scheme(costs, **parts)


def parts_of(scheme):
    return (scheme.costs, scheme.cost_to_add, scheme.cost_to_drop, scheme.cost_to_swap, scheme.groups,
            scheme.cost_to_turn)


class MakingTest(unittest.TestCase):
    def test_all_parts(self):
        scheme = Scheme(["p", "q", "r", "s"], add="q", drop="r", swap="s", groups=[("ae", "p"), ("yi", "q")],
                        turn="p")
        self.assertEqual(parts_of(scheme), (("p", "q", "r", "s"), "q", "r", "s", (("ae", "p"), ("iy", "q")), "p"))

    def test_no_groups_and_no_turns_unless_told(self):
        scheme = Scheme(["edit"], add="edit", drop="edit", swap="edit")
        self.assertEqual(parts_of(scheme), (("edit",), "edit", "edit", "edit", (), None))
        self.assertIs(made(turn=None).cost_to_turn, None)

    def test_one_to_four_costs(self):
        for many in range(1, 5):
            names = ["a", "b", "c", "d"][:many]
            self.assertEqual(Scheme(names, add="a", drop="a", swap="a").costs, tuple(names))

    def test_names_of_one_to_eight_letters(self):
        scheme = Scheme(["a", "abcdefgh"], add="a", drop="abcdefgh", swap="a")
        self.assertEqual(scheme.cost_to_drop, "abcdefgh")

    def test_costs_by_name(self):
        self.assertEqual(Scheme(costs=["e"], add="e", drop="e", swap="e"), Scheme(("e",), add="e", drop="e", swap="e"))

    def test_the_others_only_by_name(self):
        self.assertRaises(TypeError, Scheme, ["e"], "e", drop="e", swap="e")
        self.assertRaises(TypeError, Scheme, ["e"], "e", "e", "e")

    def test_lists_and_tuples_alike(self):
        wanted = made(groups=[("ae", "near"), ("io", "turn")], turn="turn")
        for groups in [
            (("ae", "near"), ("io", "turn")), [["ae", "near"], ["io", "turn"]], (["ae", "near"], ("io", "turn")),
        ]:
            for costs in (["edit", "near", "turn"], ("edit", "near", "turn")):
                found = made(costs, groups=groups, turn="turn")
                self.assertEqual(found, wanted)
                self.assertEqual(parts_of(found), parts_of(wanted))
        self.assertEqual(made(groups=[]), made(groups=()))

    def test_groups_of_the_same_cost_and_all_letters(self):
        alphabet = "zyxwvutsrqponmlkjihgfedcba"
        self.assertEqual(made(groups=[(alphabet, "edit")]).groups, ((alphabet[::-1], "edit"),))
        scheme = made(groups=[("ba", "near"), ("dc", "near")])
        self.assertEqual(scheme.groups, (("ab", "near"), ("cd", "near")))

    def test_later_changes_of_lists_change_no_scheme(self):
        costs, group = ["edit", "near", "turn"], ["ae", "near"]
        groups = [group]
        scheme = made(costs, groups=groups)
        before = parts_of(scheme)
        costs[0] = "other"
        costs.append("more")
        group[0] = "xyz"
        group[1] = "turn"
        groups.append(("io", "near"))
        self.assertEqual(parts_of(scheme), before)
        self.assertEqual([len(scheme), "other" in scheme, scheme.swap_cost("a", "e")], [3, False, "near"])

    def test_arguments_stay_as_they_were(self):
        costs, groups = ["edit", "near"], [["ea", "near"], ("zx", "edit")]
        made(costs, groups=groups)
        self.assertEqual((costs, groups), (["edit", "near"], [["ea", "near"], ("zx", "edit")]))


class WrongCostsTest(unittest.TestCase):
    def test_no_list_of_one_to_four(self):
        for value in [None, True, 3, "edit", "abcd", {}, {"edit": 1}, [], (), plain_scheme(),
                      ["a", "b", "c", "d", "e"], ("a", "a", "a", "a", "a"), [1, 2, 3, 4, 5]]:
            self.assertIs(raised(InvalidPart, made, value).value, value)

    def test_items_that_are_no_names(self):
        for value in any_values() + ["", "abcdefghi"]:
            self.assertIs(raised(InvalidName, made, [value]).value, value)
            self.assertIs(raised(InvalidName, made, ("edit", value, "edit")).value, value)

    def test_items_that_stand_twice(self):
        self.assertEqual(raised(Duplicate, made, ["edit", "near", "edit"]).label, "edit")
        self.assertEqual(raised(Duplicate, made, ["p", "q", "q", "p"]).label, "q")
        again = "".join(["ed", "it"])
        self.assertIs(raised(Duplicate, made, ["edit", again]).label, again)

    def test_items_in_their_order(self):
        self.assertEqual(raised(Duplicate, made, ["edit", "edit", "Edit"]).label, "edit")
        self.assertEqual(raised(InvalidName, made, ["edit", "Edit", "edit"]).value, "Edit")


class WrongNamesTest(unittest.TestCase):
    def test_unknown_costs_of_edits(self):
        for which in ("add", "drop", "swap"):
            for value in any_values() + ["", "edi", "edits", "dit", "e", "other"]:
                self.assertIs(raised(UnknownCost, made, **{which: value}).label, value)

    def test_none_is_no_cost_of_an_edit(self):
        self.assertIs(raised(UnknownCost, made, swap=None).label, None)

    def test_the_first_of_several(self):
        self.assertEqual(raised(UnknownCost, made, add="x", drop="y", swap="z").label, "x")
        self.assertEqual(raised(UnknownCost, made, drop="y", swap="z").label, "y")

    def test_unknown_cost_of_a_turn(self):
        for value in [value for value in any_values() if value is not None] + ["", "turns"]:
            self.assertIs(raised(UnknownCost, made, turn=value).label, value)


class WrongGroupsTest(unittest.TestCase):
    def test_no_list(self):
        for value in [None, True, False, 0, "", "ae", {}, {"ae": "near"}, plain_scheme()]:
            self.assertIs(raised(InvalidPart, made, groups=value).value, value)

    def test_groups_that_are_none(self):
        wrong = any_values() + [
            "ae", ("ae",), ("ae", "near", "near"), ("", "near"), ("a", "near"), ("aa", "near"), ("aba", "near"),
            ("aE", "near"), ("a e", "near"), ("a1", "near"), (("a", "e"), "near"), (["a", "e"], "near"),
            (None, "near"), (1, "near"), ["ae"], ["a", "near"], {"ae": "near", "io": "near"}, ("ae\n", "near"),
        ]
        for value in wrong:
            self.assertIs(raised(InvalidGroup, made, groups=[value]).value, value)
            self.assertIs(raised(InvalidGroup, made, groups=(("xy", "near"), value)).value, value)

    def test_letters_of_an_earlier_group(self):
        for second in [("ae", "near"), ("ea", "turn"), ("xya", "near"), ["ez", "edit"]]:
            groups = [("ae", "near"), second]
            self.assertIs(raised(InvalidGroup, made, groups=groups).value, groups[1])
        third = ("oc", "near")
        self.assertIs(raised(InvalidGroup, made, groups=[("ab", "near"), ("cd", "near"), third]).value, third)

    def test_unknown_costs(self):
        for value in any_values() + ["", "nea", "nears"]:
            self.assertIs(raised(UnknownCost, made, groups=[("ae", value)]).label, value)
            self.assertIs(raised(UnknownCost, made, groups=(["xy", "near"], ["ae", value])).label, value)

    def test_order_within_a_group(self):
        one, two = ("aa", "other"), ("xy", "other")
        self.assertIs(raised(InvalidGroup, made, groups=[one]).value, one)
        self.assertIs(raised(InvalidGroup, made, groups=[("yz", "near"), two]).value, two)

    def test_group_by_group(self):
        self.assertEqual(raised(UnknownCost, made, groups=[("ae", "other"), "wrong"]).label, "other")
        self.assertEqual(raised(UnknownCost, made, groups=[("ae", "p"), ("ae", "q")]).label, "p")
        wrong = ("i", "near")
        self.assertIs(raised(InvalidGroup, made, groups=[("ae", "near"), wrong, ("xy", "other")]).value, wrong)


class OrderOfChecksTest(unittest.TestCase):
    def test_each_exception_before_the_later_ones(self):
        wrong = {"add": "x", "drop": "y", "swap": "z", "groups": 5, "turn": "w"}
        self.assertEqual(raised(InvalidPart, made, [], **wrong).value, [])
        self.assertEqual(raised(InvalidName, made, ["A", "A"], **wrong).value, "A")
        self.assertEqual(raised(Duplicate, made, ["e", "e"], **wrong).label, "e")
        self.assertEqual(raised(UnknownCost, made, ["edit"], **wrong).label, "x")
        wrong["add"] = "edit"
        self.assertEqual(raised(UnknownCost, made, ["edit"], **wrong).label, "y")
        wrong["drop"] = "edit"
        self.assertEqual(raised(UnknownCost, made, ["edit"], **wrong).label, "z")
        wrong["swap"] = "edit"
        self.assertEqual(raised(InvalidPart, made, ["edit"], **wrong).value, 5)
        wrong["groups"] = [("a", "v")]
        self.assertEqual(raised(InvalidGroup, made, ["edit"], **wrong).value, ("a", "v"))
        wrong["groups"] = [("ae", "v")]
        self.assertEqual(raised(UnknownCost, made, ["edit"], **wrong).label, "v")
        wrong["groups"] = [("ae", "edit")]
        self.assertEqual(raised(UnknownCost, made, ["edit"], **wrong).label, "w")


class PropertiesTest(unittest.TestCase):
    def test_kinds(self):
        scheme = made(["edit", "near"], groups=[["ea", "near"]])
        self.assertIs(scheme.costs.__class__, tuple)
        self.assertIs(scheme.groups.__class__, tuple)
        self.assertIs(scheme.groups[0].__class__, tuple)

    def test_letters_ascend_and_groups_stay_in_order(self):
        scheme = made(groups=[("zyx", "turn"), ("ea", "near"), ("onm", "edit")])
        self.assertEqual(scheme.groups, (("xyz", "turn"), ("ae", "near"), ("mno", "edit")))

    def test_schemes_never_change(self):
        scheme = plain_scheme()
        for name in ("costs", "cost_to_add", "cost_to_drop", "cost_to_swap", "groups", "cost_to_turn"):
            self.assertRaises(AttributeError, setattr, scheme, name, "near")
        self.assertEqual(scheme, plain_scheme())

    def test_length(self):
        for many in range(1, 5):
            self.assertEqual(len(Scheme(["a", "b", "c", "d"][:many], add="a", drop="a", swap="a")), many)

    def test_contains(self):
        scheme = made(["edit", "near"], groups=[("ae", "near")])
        for name in ("edit", "near"):
            self.assertIs(name in scheme, True)
        for value in any_values() + ["", "e", "ed", "turn", "ae", "Edit", "edit ", ("edit", "near"), scheme]:
            self.assertIs(value in scheme, False, repr(value))

    def test_contains_nothing_that_only_equals_a_name(self):
        class Equal:
            def __eq__(self, other):
                return True

        value = Equal()
        self.assertIs(value in plain_scheme(), False)
        self.assertIs(raised(UnknownCost, made, add=value).label, value)


class EqualityTest(unittest.TestCase):
    def test_equal_schemes(self):
        self.assertTrue(plain_scheme() == plain_scheme())
        self.assertFalse(plain_scheme() != plain_scheme())

    def test_groups_in_any_order(self):
        one = made(groups=[("ae", "near"), ("io", "turn"), ("xy", "near")])
        other = made(groups=[["yx", "near"], ["ea", "near"], ["io", "turn"]])
        self.assertTrue(one == other)
        self.assertNotEqual(one.groups, other.groups)

    def test_each_part_matters(self):
        base = {"groups": [("ae", "near")], "turn": "turn"}
        schemes_of_parts = [
            made(**base), made(("edit", "turn", "near"), **base), made(("edit", "near", "turn", "more"), **base),
            made(add="near", **base), made(drop="near", **base), made(swap="near", **base),
            made(groups=[("ae", "near")]), made(groups=[("ae", "near")], turn="edit"), made(turn="turn"),
            made(groups=[("ae", "turn")], turn="turn"), made(groups=[("aei", "near")], turn="turn"),
            made(groups=[("ae", "near"), ("io", "near")], turn="turn"),
            made(groups=[("ae", "near"), ("io", "turn")], turn="turn"),
            made(groups=[("ae", "turn"), ("io", "near")], turn="turn"),
            made(groups=[("aeio", "near")], turn="turn"),
        ]
        for at, one in enumerate(schemes_of_parts):
            for place, other in enumerate(schemes_of_parts):
                self.assertIs(one == other, at == place)
                self.assertIs(one != other, at != place)

    def test_other_classes(self):
        scheme = plain_scheme()
        self.assertEqual(schemes.Scheme, scheme.__class__)

        class Other:
            costs = scheme.costs
            cost_to_add = cost_to_drop = cost_to_swap = "edit"
            groups = scheme.groups
            cost_to_turn = "turn"

        for value in [Other(), scheme.costs, list(scheme.costs), "edit", None, 3, {}, parts_of(scheme)]:
            self.assertIs(scheme == value, False)
            self.assertIs(value == scheme, False)
            self.assertIs(scheme != value, True)


class SwapCostTest(unittest.TestCase):
    def test_groups_and_others(self):
        scheme = Scheme(["p", "q", "r"], add="p", drop="p", swap="r", groups=[("aei", "p"), ("xyz", "q")])
        wanted = {"ae": "p", "ea": "p", "ai": "p", "ie": "p", "xz": "q", "zy": "q", "ax": "r", "xa": "r", "ab": "r",
                  "bc": "r", "zb": "r"}
        for letters, cost in wanted.items():
            self.assertEqual(scheme.swap_cost(letters[0], letters[1]), cost)
        self.assertEqual(scheme.swap_cost(one="x", other="y"), "q")

    def test_without_groups(self):
        self.assertEqual(made(swap="near").swap_cost("a", "e"), "near")

    def test_what_is_no_letter(self):
        scheme = plain_scheme()
        for value in any_values() + ["", "ab"]:
            self.assertIs(raised(InvalidLetter, scheme.swap_cost, value, "a").value, value)
            self.assertIs(raised(InvalidLetter, scheme.swap_cost, "a", value).value, value)
        self.assertEqual(raised(InvalidLetter, scheme.swap_cost, "A", "").value, "A")

    def test_the_same_letter(self):
        for letter in ("a", "z"):
            self.assertEqual(raised(InvalidLetter, plain_scheme().swap_cost, letter, letter).value, letter)


class StepCostTest(unittest.TestCase):
    def setUp(self):
        self.scheme = Scheme(["p", "q", "r", "s"], add="p", drop="q", swap="r", groups=[("ae", "s"), ("io", "p")],
                             turn="s")

    def test_each_form(self):
        step_cost = self.scheme.step_cost
        for step, wanted in [(("keep",), None), (("drop",), "q"), (("add", "x"), "p"), (("turn",), "s")]:
            self.assertEqual(step_cost(step), wanted)
            self.assertEqual(step_cost(list(step)), wanted)
            self.assertEqual(step_cost(step=step, letter="b"), wanted)

    def test_swaps(self):
        step_cost = self.scheme.step_cost
        for writes, letter, wanted in [("a", "e", "s"), ("e", "a", "s"), ("o", "i", "p"), ("a", "o", "r"),
                                       ("b", "a", "r"), ("b", "c", "r")]:
            self.assertEqual(step_cost(("swap", writes), letter), wanted)
            self.assertEqual(step_cost(["swap", writes], letter=letter), wanted)

    def test_the_letter_matters_for_swaps_only(self):
        for value in any_values() + ["", "ab"]:
            for step, wanted in [(("keep",), None), (("drop",), "q"), (("add", "x"), "p"), (("turn",), "s")]:
                self.assertEqual(self.scheme.step_cost(step, value), wanted)
        self.assertEqual(self.scheme.step_cost(("add", "x"), "x"), "p")

    def test_what_is_no_step(self):
        wrong = any_values() + [
            "keep", "drop", "turn", ("Keep",), ("keep", "a"), ("keep", None), ("drop", "a"), ("turn", "a"), ("add",),
            ("swap",), ("add", ""), ("add", "ab"), ("add", "A"), ("add", None), ("add", 1), ("swap", ""),
            ("swap", "ab"), ("swap", "1"), ("swap", ["a"]), ("add", "a", "b"), ("swap", "a", "b"), ("stay",),
            ("a", "add"), (["keep"],), (None,), (True,), (1, "a"), ("keep ",), {"keep": 1}, {0: "keep"}, "ad",
        ]
        for value in wrong:
            for letter in ("a", None):
                self.assertIs(raised(InvalidStep, self.scheme.step_cost, value, letter).value, value)

    def test_turns_in_a_scheme_without_turns(self):
        scheme = made()
        for step in (("turn",), ["turn"]):
            self.assertIs(raised(InvalidStep, scheme.step_cost, step).value, step)
        self.assertEqual(made(turn="near").step_cost(("turn",)), "near")
        for step, wanted in [(("keep",), None), (("drop",), "edit"), (("add", "t"), "edit"), (("swap", "t"), "edit")]:
            self.assertEqual(scheme.step_cost(step, "u"), wanted)

    def test_letters_of_swaps(self):
        for value in any_values() + ["", "ab", "e"]:
            self.assertIs(raised(InvalidLetter, self.scheme.step_cost, ("swap", "e"), value).value, value)
        self.assertIs(raised(InvalidLetter, self.scheme.step_cost, ("swap", "e")).value, None)

    def test_the_step_is_checked_before_the_letter(self):
        step = ("swap", "E")
        self.assertIs(raised(InvalidStep, self.scheme.step_cost, step, "E").value, step)
        self.assertIs(raised(InvalidStep, self.scheme.step_cost, step).value, step)


class InterfaceTest(unittest.TestCase):
    def test_parameters(self):
        parameters = inspect.signature(Scheme).parameters
        self.assertEqual(list(parameters), ["costs", "add", "drop", "swap", "groups", "turn"])
        for name in list(parameters)[1:]:
            self.assertEqual(parameters[name].kind, inspect.Parameter.KEYWORD_ONLY)
        self.assertEqual(list(inspect.signature(Scheme.swap_cost).parameters), ["self", "one", "other"])
        self.assertEqual(list(inspect.signature(Scheme.step_cost).parameters), ["self", "step", "letter"])

    def test_the_methods_stand_in_the_class(self):
        for name in ("costs", "groups", "cost_to_add", "cost_to_drop", "cost_to_swap", "cost_to_turn"):
            self.assertIsInstance(vars(Scheme)[name], property)
        for name in ("__len__", "__contains__", "__eq__", "swap_cost", "step_cost"):
            self.assertIn(name, vars(Scheme))

    def test_functions(self):
        for name, wanted in [
            ("costs_of", ["scheme", "numbers"]), ("numbers_of", ["scheme", "costs"]),
            ("renamed", ["scheme", "cost", "new"]), ("merged", ["scheme", "one", "other"]),
            ("without_turns", ["scheme"]), ("without_groups", ["scheme"]),
        ]:
            function = getattr(schemes, name)
            self.assertEqual(list(inspect.signature(function).parameters), wanted)
            self.assertEqual(function.__module__, "seenchoices.schemes")


if __name__ == "__main__":
    unittest.main()
