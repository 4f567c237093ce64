"""Promises [101] to [104]: orders of words, the ranks of a word, and what is sure of two words."""

import copy
import itertools
import random
import unittest

from evidence import (
    all_true, check_answer, drawn_choices, drawn_facts, drawn_word, drawn_words, far, more_schemes, small_scheme,
    true_costs,
)
from sample_values import CHOICE, FACT, any_values, plain_scheme, raised, wrong_choices, wrong_facts
from seenchoices import orders as module
from seenchoices.choices import shows_tree
from seenchoices.errors import (
    InvalidChoice, InvalidFact, InvalidOrder, InvalidPart, InvalidWord, NotList, UnknownWord,
)
from seenchoices.orders import is_order, order_list, orders, ranks, sure_order, why_order
from seenchoices.wordlists import WordList

CONTRADICTION = [((1, -1), True), ((-1, 1), True)]


def drawn_lists(seed, many, most=4):
    source = random.Random(seed)
    for at in range(many):
        scheme = more_schemes()[at % len(more_schemes())]
        letters = "abc"[:2 + at % 2]
        known = {"facts": drawn_facts(source, scheme, 2), "choices": drawn_choices(source, letters, 2)}
        yield scheme, drawn_words(source, letters, most), drawn_word(source, letters), known


def all_orders(words):
    """All orders of words, from the numbers of groups before each of them."""
    found = []
    for places in itertools.product(range(len(words)), repeat=len(words)):
        if sorted(set(places)) == list(range(max(places) + 1)):
            found.append([[word for word, place in zip(words, places) if place == group]
                          for group in range(max(places) + 1)])
    return found


def order_by_distance(scheme, words, target, costs):
    numbers = [far(scheme, word, target, costs) for word in words]
    return [[word for word, number in zip(words, numbers) if number == step] for step in sorted(set(numbers))]


def choices_that_say(target, groups):
    """The choices of promise [103], for groups in the order of the word list."""
    found = []
    for at, group in enumerate(groups):
        found += [(target, group[place], group[place + 1], False) for place in range(len(group) - 1)]
        if len(group) >= 2:
            found.append((target, group[len(group) - 1], group[0], False))
        if at != 0:
            found.append((target, groups[at - 1][0], group[0], True))
    return found


def group_numbers(words, order):
    return [[word in group for group in order].index(True) for word in words]


def sample_list():
    return WordList(small_scheme(), ["hose", "house", "worse"])


class IsOrderTest(unittest.TestCase):
    def test_orders(self):
        for value in [[["hose"], ["house", "worse"]], [["worse", "hose", "house"]], (("worse",), ["house"], ("hose",)),
                      [("house", "hose"), ["worse"]]]:
            self.assertIs(is_order(sample_list(), value), True)
        self.assertIs(is_order(WordList(small_scheme(), [""]), [[""]]), True)
        for order in all_orders(("a", "b", "", "ab")):
            self.assertIs(is_order(WordList(plain_scheme(), ["a", "b", "", "ab"]), order), True)

    def test_no_orders(self):
        for value in any_values() + [
            [["hose"], ["house"]], [["hose"], ["house", "worse"], []], [["hose"], ["house", "worse", "hose"]],
            [["hose"], ["hose"], ["house", "worse"]], [["hose", "house", "worse", "horse"]], ["hose", "house", "worse"],
            [["hose"], "house", "worse"], [[["hose"]], ["house", "worse"]], [["hose"], ["house", 7]],
            {0: ["hose", "house", "worse"]}, [{0: "hose", 1: "house", 2: "worse"}], [None, ["hose", "house", "worse"]],
            [["hose", "house", None]], [[sample_list(), "hose", "house"]], sample_list(),
        ]:
            self.assertIs(is_order(sample_list(), value), False)
        self.assertIs(is_order(words=sample_list(), value=[["hose", "house", "worse"]]), True)


class OrdersTest(unittest.TestCase):
    def test_costs_or_a_tree_for_each_order(self):
        seen = {"costs": 0, "tree": 0}
        for scheme, words, target, known in drawn_lists(103, 40, 3):
            found = WordList(scheme, words)
            right = []
            for order in all_orders(words):
                answer = why_order(found, target, order, **known)
                more = known["choices"] + choices_that_say(target, order)
                seen[check_answer(self, scheme, known["facts"], more, answer)] += 1
                if answer[0] == "costs":
                    right.append(order)
                    self.assertEqual(order_by_distance(scheme, words, target, answer[1]), order)
                else:
                    self.assertIs(shows_tree(scheme, known["facts"], more, answer[1]), True)
            self.assertEqual(order_list(found, target, **known),
                             sorted(right, key=lambda order: group_numbers(words, order)))
            self.assertEqual(sorted(orders(found, target, **known)), sorted(right))
        self.assertGreater(min(seen.values()), 30)

    def test_against_costs_that_decide(self):
        for scheme, words, target, known in drawn_lists(102, 200, 5):
            if len(scheme.costs) > 2:
                continue
            found = []
            for costs in true_costs(scheme, known["facts"], known["choices"], [(word, target) for word in words]):
                order = order_by_distance(scheme, words, target, costs)
                if order not in found:
                    found.append(order)
            self.assertEqual(order_list(WordList(scheme, words), target, **known),
                             sorted(found, key=lambda order: group_numbers(words, order)))

    def test_five_words_under_four_costs(self):
        scheme, words, target = more_schemes()[3], ["abc", "cab", "bd", "", "dcba"], "abcd"
        found = order_list(WordList(scheme, words), target)
        source = random.Random(104)
        for _ in range(400):
            costs = {name: source.randint(1, 12) for name in scheme.costs}
            self.assertIn(order_by_distance(scheme, words, target, costs), found)
        for order in found:
            self.assertEqual(why_order(WordList(scheme, words), target, order)[0], "costs")
        for order in all_orders(words)[::7]:
            if order not in found:
                self.assertEqual(why_order(WordList(scheme, words), target, order)[0], "tree")

    def test_contradictions(self):
        self.assertEqual(order_list(sample_list(), "horse", facts=CONTRADICTION), [])
        self.assertEqual(list(orders(sample_list(), "horse", facts=CONTRADICTION)), [])
        self.assertEqual(ranks(sample_list(), "horse", "hose", facts=CONTRADICTION), [])
        self.assertEqual(sure_order(sample_list(), "horse", facts=CONTRADICTION), [])

    def test_one_word(self):
        found = WordList(small_scheme(), ["a"])
        self.assertEqual([order_list(found, "b"), ranks(found, "b", "a"), sure_order(found, "b")], [[[["a"]]], [0], []])
        self.assertEqual(why_order(found, "b", [["a"]])[0], "costs")
        self.assertEqual(why_order(found, "b", [["a"]], facts=CONTRADICTION)[0], "tree")

    def test_orders_that_are_told_as_they_should_not_be(self):
        wanted = [["house", "worse"], ["hose"]]
        self.assertIn(wanted, order_list(sample_list(), "horse"))
        for order in [[["worse", "house"], ["hose"]], (("worse", "house"), ("hose",))]:
            answer = why_order(sample_list(), "horse", order, facts=[((-1, 1), True)])
            more = choices_that_say("horse", wanted)
            self.assertEqual(check_answer(self, small_scheme(), [((-1, 1), True)], more, answer), "tree")

    def test_a_generator(self):
        told = orders(sample_list(), "horse")
        self.assertEqual(told.__class__.__name__, "generator")
        self.assertEqual(sorted(told), sorted(order_list(sample_list(), "horse")))

    def test_names_and_lists(self):
        facts, choices = ([[1, -1], True],), (list(CHOICE),)
        for call in (order_list, sure_order, lambda **named: list(orders(**named))):
            self.assertEqual(call(words=sample_list(), target="house", facts=facts, choices=choices),
                             call(words=sample_list(), target="house", facts=[((1, -1), True)], choices=[CHOICE]))
        self.assertEqual(ranks(words=sample_list(), target="horse", word="hose", facts=facts, choices=()), [2])
        self.assertEqual(why_order(words=sample_list(), target="horse", order=[["hose", "house", "worse"]],
                                   facts=facts, choices=())[0], "tree")


class RanksTest(unittest.TestCase):
    def test_against_the_list_of_orders(self):
        seen = {"nearer": 0, "same": 0, "farther": 0}
        for scheme, words, target, known in drawn_lists(105, 120):
            found = WordList(scheme, words)
            told = order_list(found, target, **known)
            for word in words:
                before = set()
                for order in told:
                    at = group_numbers([word], order)[0]
                    before.add(sum(len(group) for group in order[:at]))
                self.assertEqual(ranks(found, target, word, **known), sorted(before))
            expected = []
            for one, other in itertools.combinations(words, 2):
                numbers = [group_numbers([one, other], order) for order in told]
                names = {"same" if a == b else "nearer" if a < b else "farther" for a, b in numbers}
                if len(names) == 1:
                    expected.append((one, names.pop(), other))
                    seen[expected[-1][1]] += 1
            self.assertEqual(sure_order(found, target, **known), expected)
        self.assertGreater(min(seen.values()), 5)


class ErrorsTest(unittest.TestCase):
    def calls(self):
        return [
            lambda words, target, **known: order_list(words, target, **known),
            lambda words, target, **known: next(orders(words, target, **known)),
            lambda words, target, **known: why_order(words, target, [["hose", "house", "worse"]], **known),
            lambda words, target, **known: ranks(words, target, "hose", **known),
            lambda words, target, **known: sure_order(words, target, **known),
        ]

    def test_word_lists_come_first(self):
        for value in any_values() + [["hose"], "hose"]:
            self.assertIs(raised(NotList, is_order, value, value).value, value)
            self.assertIs(raised(NotList, why_order, value, 7, 7, facts=7).value, value)
            self.assertIs(raised(NotList, ranks, value, 7, 7, facts=7).value, value)
            for call in self.calls():
                self.assertIs(raised(NotList, call, value, 7, facts=7).value, value)

    def test_targets(self):
        for value in any_values() + ["abcdefg"]:
            for call in self.calls():
                self.assertIs(raised(InvalidWord, call, sample_list(), value, facts=7).value, value)
            self.assertIs(raised(InvalidWord, why_order, sample_list(), value, 7, facts=7).value, value)
            self.assertIs(raised(InvalidWord, ranks, sample_list(), value, 7, facts=7).value, value)

    def test_orders_and_words(self):
        for value in any_values() + [[["hose"], ["house"]], [["hose", "house", "worse"], []]]:
            self.assertIs(raised(InvalidOrder, why_order, sample_list(), "horse", value, facts=7).value, value)
        for value in any_values() + ["horse", "", ["hose"]]:
            self.assertIs(raised(UnknownWord, ranks, sample_list(), "horse", value, facts=7).label, value)

    def test_facts_and_choices(self):
        for call in self.calls():
            for value in [None, True, 5, "facts", {}, {0: FACT}]:
                self.assertIs(raised(InvalidPart, call, sample_list(), "a", facts=value, choices=7).value, value)
                self.assertIs(raised(InvalidPart, call, sample_list(), "a", facts=[FACT], choices=value).value, value)
            for value in wrong_facts():
                self.assertIs(raised(InvalidFact, call, sample_list(), "a", facts=(FACT, value, 7)).value, value)
            for value in wrong_choices():
                self.assertIs(raised(InvalidChoice, call, sample_list(), "a", choices=(CHOICE, value, 7)).value, value)

    def test_parts_by_name_only(self):
        for call in (order_list, orders, sure_order):
            with self.assertRaises(TypeError):
                call(sample_list(), "horse", [], [])


class ResultsTest(unittest.TestCase):
    def test_results_are_new_and_the_same_behind_other_questions(self):
        for scheme, words, target, known in drawn_lists(106, 30):
            found, before = WordList(scheme, words), copy.deepcopy(known)
            first = order_list(found, target, **known)
            expected = copy.deepcopy(first)
            parts = [group for order in first for group in order] + first
            self.assertEqual(len({id(part) for part in parts}), len(parts))
            for part in parts:
                part.clear()
            for order in orders(found, target, **known):
                order[0].append("more")
            ranks(found, target, words[0], **known).append(9)
            sure_order(found, target, **known).append(9)
            self.assertEqual(order_list(found, target, **known), expected)
            self.assertEqual(known, before)
            for order in expected:
                answer = why_order(found, target, order, **known)
                self.assertTrue(all_true(scheme, known["facts"], known["choices"], answer[1]))

    def test_the_interface_is_defined_here(self):
        for name in "is_order orders order_list why_order ranks sure_order".split():
            self.assertEqual(getattr(module, name).__module__, "seenchoices.orders")


if __name__ == "__main__":
    unittest.main()
