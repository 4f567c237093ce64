"""Promises [71] and [72]: facts and choices, and whether they hold at costs."""

import copy
import random
import unittest

from evidence import (
    choice_is_true, drawn_choices, drawn_facts, fact_is_true, more_schemes, small_scheme,
)
from sample_values import CHOICE, FACT, any_values, plain_scheme, raised, wrong_choices, wrong_facts
from seenchoices import choices as module
from seenchoices.choices import (
    broken, choice_holds, conflict, explained, fact_holds, is_choice, is_fact, shows_tree,
)
from seenchoices.errors import InvalidChoice, InvalidCosts, InvalidFact, InvalidPart, NotScheme
from seenchoices.schemes import Scheme, costs_of

COSTS = {"indel": 2, "swap": 3}


class KindsTest(unittest.TestCase):
    def test_facts(self):
        for value in [((1, -2), True), ((0, 0), False), ((100, -100), False), ((-100, 100), True)]:
            self.assertIs(is_fact(small_scheme(), value), True)
        self.assertIs(is_fact(Scheme(["e"], add="e", drop="e", swap="e"), ((5,), False)), True)
        self.assertIs(is_fact(plain_scheme(), ((5, 0, -1), True)), True)
        for value in wrong_facts():
            self.assertIs(is_fact(small_scheme(), value), False)

    def test_lists_are_no_facts_here(self):
        for value in [[(1, -2), True], ([1, -2], True), [[1, -2], True]]:
            self.assertIs(is_fact(small_scheme(), value), False)

    def test_choices(self):
        for value in [CHOICE, ("", "", "", True), ("a", "b", "b", False), ("abcdef", "", "zzzzzz", True)]:
            self.assertIs(is_choice(value), True)
            self.assertIs(is_choice(list(value)), False)
        for value in wrong_choices():
            self.assertIs(is_choice(value), False)

    def test_names_and_the_scheme(self):
        self.assertIs(is_fact(scheme=small_scheme(), value=FACT), True)
        self.assertIs(is_choice(value=CHOICE), True)
        for value in any_values():
            if not isinstance(value, Scheme):
                self.assertIs(raised(NotScheme, is_fact, value, value).value, value)


class HoldsTest(unittest.TestCase):
    def test_sums_below_at_and_above_zero(self):
        for numbers, total in [((3, -2), 0), ((2, -1), 1), ((1, -1), -1), ((0, 0), 0), ((-100, 67), 1)]:
            self.assertIs(fact_holds(small_scheme(), (numbers, False), COSTS), total >= 0)
            self.assertIs(fact_holds(small_scheme(), (numbers, True), COSTS), total > 0)

    def test_choices_are_about_distances_to_the_target(self):
        scheme = Scheme(["add", "drop"], add="add", drop="drop", swap="drop")
        costs = {"add": 1, "drop": 9}
        self.assertIs(choice_holds(scheme, ("ab", "a", "abc", True), costs), True)
        self.assertIs(choice_holds(scheme, ("ab", "abc", "a", False), costs), False)
        self.assertIs(choice_holds(scheme, ("ab", "a", "b", False), costs), True)
        self.assertIs(choice_holds(scheme, ("ab", "a", "b", True), costs), False)
        self.assertIs(choice_holds(scheme, ("ab", "ab", "ab", True), costs), False)

    def test_against_all_rows(self):
        source = random.Random(72)
        for at in range(300):
            scheme = more_schemes()[at % len(more_schemes())]
            costs = costs_of(scheme, tuple(source.choice((1, 2, 3, 9, 10 ** 6)) for _ in scheme.costs))
            facts, found = drawn_facts(source, scheme, 6), drawn_choices(source, "abc", 6)
            self.assertEqual([fact_holds(scheme, fact, costs) for fact in facts],
                             [fact_is_true(scheme, fact, costs) for fact in facts])
            self.assertEqual([choice_holds(scheme, choice, costs) for choice in found],
                             [choice_is_true(scheme, choice, costs) for choice in found])
            self.assertEqual(broken(scheme, facts, found, costs), (
                [index for index, fact in enumerate(facts) if not fact_is_true(scheme, fact, costs)],
                [index for index, choice in enumerate(found) if not choice_is_true(scheme, choice, costs)],
            ))

    def test_broken(self):
        facts = [((1, 0), True), ((-1, 0), False), ((3, -2), True)]
        found = [("a", "b", "a", False), ("a", "a", "b", True), ("a", "b", "b", True)]
        self.assertEqual(broken(small_scheme(), facts, found, COSTS), ([1, 2], [0, 2]))
        self.assertEqual(broken(small_scheme(), [], [], COSTS), ([], []))
        self.assertEqual(broken(small_scheme(), facts[:1], found[1:2], COSTS), ([], []))

    def test_lists_and_names(self):
        listed_fact, listed_choice = [[2, -1], True], list(CHOICE)
        self.assertEqual(fact_holds(scheme=small_scheme(), fact=listed_fact, costs=COSTS), True)
        self.assertEqual(choice_holds(scheme=small_scheme(), choice=listed_choice, costs=COSTS), True)
        self.assertEqual(broken(scheme=small_scheme(), facts=(listed_fact,), choices=(listed_choice,), costs=COSTS),
                         broken(small_scheme(), [FACT], [CHOICE], COSTS))

    def test_great_costs(self):
        costs = {"indel": 10 ** 40, "swap": 2 * 10 ** 40 - 1}
        self.assertIs(fact_holds(small_scheme(), ((2, -1), True), costs), True)
        self.assertIs(fact_holds(small_scheme(), ((-2, 1), False), costs), False)

    def test_arguments_stay_and_results_are_new(self):
        wrong = ["horse", "house", "hose", True]
        facts, found, costs = [[[1, -1], True]], [list(wrong)], dict(COSTS)
        first = broken(small_scheme(), facts, found, costs)
        first[0].append(7)
        first[1].append(7)
        self.assertEqual(broken(small_scheme(), facts, found, costs), ([0], [0]))
        self.assertEqual([facts, found, costs], [[[[1, -1], True]], [wrong], COSTS])
        empty = broken(small_scheme(), [], [], costs)
        self.assertIsNot(empty[0], empty[1])


class ErrorsTest(unittest.TestCase):
    def test_schemes_come_first(self):
        for call in [fact_holds, choice_holds, explained, conflict]:
            for value in any_values():
                if not isinstance(value, Scheme):
                    self.assertIs(raised(NotScheme, call, value, value, value).value, value)
        for call in [broken, shows_tree]:
            self.assertEqual(raised(NotScheme, call, None, None, None, None).value, None)

    def test_single_facts_and_choices(self):
        for value in wrong_facts():
            self.assertIs(raised(InvalidFact, fact_holds, small_scheme(), value, "wrong").value, value)
        for value in wrong_choices():
            self.assertIs(raised(InvalidChoice, choice_holds, small_scheme(), value, "wrong").value, value)

    def test_costs_come_last(self):
        for costs in [None, {}, {"indel": 1}, {"indel": 1, "swap": 0}, {"indel": 1, "swap": True}, [1, 1],
                      {"indel": 1, "swap": 1, "more": 1}]:
            self.assertIs(raised(InvalidCosts, fact_holds, small_scheme(), FACT, costs).value, costs)
            self.assertIs(raised(InvalidCosts, choice_holds, small_scheme(), CHOICE, costs).value, costs)
            self.assertIs(raised(InvalidCosts, broken, small_scheme(), [FACT], [CHOICE], costs).value, costs)

    def calls(self):
        """The functions of the module with lists of facts and choices, as functions of these two."""
        return [
            lambda facts, choices: broken(small_scheme(), facts, choices, "wrong"),
            lambda facts, choices: explained(small_scheme(), facts, choices),
            lambda facts, choices: shows_tree(small_scheme(), facts, choices, "wrong"),
            lambda facts, choices: conflict(small_scheme(), facts, choices),
        ]

    def test_lists_of_facts_and_choices(self):
        wrong_lists = [None, True, 0, "", "facts", {}, {0: FACT}, small_scheme()]
        for call in self.calls():
            for value in wrong_lists:
                self.assertIs(raised(InvalidPart, call, value, "wrong").value, value)
                self.assertIs(raised(InvalidPart, call, [FACT], value).value, value)
            for value in wrong_facts():
                for facts in ([value], (FACT, value, "wrong"), [FACT, value, value]):
                    self.assertIs(raised(InvalidFact, call, facts, "wrong").value, value)
            for value in wrong_choices():
                for choices in ([value], (CHOICE, value, "wrong"), [CHOICE, value, value]):
                    self.assertIs(raised(InvalidChoice, call, [FACT], choices).value, value)

    def test_fields_are_the_very_objects(self):
        value = ["a", "b", "c", [True]]
        before = copy.deepcopy(value)
        self.assertIs(raised(InvalidChoice, explained, small_scheme(), [], [CHOICE, value]).value, value)
        self.assertEqual(value, before)

    def test_the_interface_is_defined_here(self):
        for name in ("is_fact is_choice fact_holds choice_holds broken explained shows_tree conflict").split():
            self.assertEqual(getattr(module, name).__module__, "seenchoices.choices")


if __name__ == "__main__":
    unittest.main()
