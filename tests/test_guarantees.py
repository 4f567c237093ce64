"""Promises [8] to [11] over the whole program: what stays under other names, from right to left, and in lists."""

import copy
import random
import unittest

from evidence import (
    all_true, drawn_choices, drawn_facts, drawn_word, drawn_words, more_schemes, small_scheme,
)
from seenchoices.choices import broken, conflict, explained, shows_tree
from seenchoices.counts import all_counts, free_counts, minimal_counts
from seenchoices.distances import cheapest_counts, distance, nearest, order_at
from seenchoices.kinds import alike, needless_kinds, paying
from seenchoices.orders import is_order, order_list, ranks, sure_order, why_order
from seenchoices.rows import row_count
from seenchoices.schemes import Scheme, costs_of, without_groups, without_turns
from seenchoices.session import Session
from seenchoices.sure import bounds, follows, never_farther, relations, shows_why, why
from seenchoices.systems import settle, shows_sum
from seenchoices.texts import choice_of, choice_text, fact_of, fact_text, scheme_of, scheme_text
from seenchoices.wordlists import WordList

RELATIONS = ("nearer", "same", "farther")
NO_WORDS = (*RELATIONS, "costs", "tree", "swap", "near", "far", "turn")


class Case:
    """A scheme with words, a target, facts and choices, all of them drawn."""

    def __init__(self, source, at):
        letters = "abc"[:2 + at % 2]
        self.scheme = more_schemes()[at % len(more_schemes())]
        self.words = drawn_words(source, letters, 4)
        self.target = drawn_word(source, letters)
        self.facts = drawn_facts(source, self.scheme, 2)
        self.choices = drawn_choices(source, letters, 3)
        self.costs = costs_of(self.scheme, tuple(source.randint(1, 9) for _ in self.scheme.costs))

    def answers(self):
        """What the program tells of the case, as far as it is told in one way only."""
        scheme, words, target, known = self.scheme, self.words, self.target, self.known()
        found = WordList(scheme, words)
        first, last = words[0], words[-1]
        return {
            "counts": [minimal_counts(scheme, first, target), all_counts(scheme, first, target),
                       row_count(scheme, first, target)],
            "free": [free_counts(scheme, first, target, kind) for kind in ("swap", "near", "far", "turn")],
            "cheapest": cheapest_counts(scheme, first, target, self.costs),
            "nearest": nearest(scheme, target, words, self.costs),
            "order at": order_at(scheme, target, words, self.costs),
            "broken": broken(scheme, self.facts, self.choices, self.costs),
            "explained": explained(scheme, self.facts, self.choices)[0],
            "conflict": conflict(scheme, self.facts, self.choices),
            "relations": relations(scheme, target, first, last, **known),
            "why": [why(scheme, target, first, relation, last, **known)[0] for relation in RELATIONS],
            "never farther": never_farther(scheme, target, first, last, **known),
            "follows": [follows(scheme, fact, choices=self.choices) for fact in self.facts],
            "bounds": [bounds(scheme, scheme.costs[0], cost, **known) for cost in scheme.costs],
            "lists": [found.can_be_nearest(target, **known), found.surely_nearest(target, **known),
                      [chosen for chosen, _ in found.nearest_sets(target, **known)],
                      found.best_word([target, first], **known), found.why_nearest(target, first, **known)[0]],
            "orders": order_list(found, target, **known),
            "ranks": [ranks(found, target, word, **known) for word in words],
            "sure order": sure_order(found, target, **known),
            "alike": [alike(scheme, call(scheme), words, facts=self.facts) for call in (without_turns, without_groups)],
            "needless": needless_kinds(scheme, words, facts=self.facts),
            "paying": [paying(scheme, words, cost, facts=self.facts) for cost in scheme.costs],
        }

    def known(self):
        return {"facts": self.facts, "choices": self.choices}


def cases(seed, many):
    source = random.Random(seed)
    return [Case(source, at) for at in range(many)]


def with_other_names(scheme, names):
    table = dict(zip(scheme.costs, names))
    return Scheme([table[cost] for cost in scheme.costs], add=table[scheme.cost_to_add],
                  drop=table[scheme.cost_to_drop], swap=table[scheme.cost_to_swap],
                  groups=[(letters, table[cost]) for letters, cost in scheme.groups],
                  turn=table.get(scheme.cost_to_turn))


def backwards(value):
    """A value with all words read from right to left."""
    if isinstance(value, str):
        return value if value in NO_WORDS else value[::-1]
    if isinstance(value, list):
        return [backwards(item) for item in value]
    return tuple(backwards(item) for item in value) if isinstance(value, tuple) else value


def as_lists(value):
    """A value with a list in the place of each tuple."""
    return [as_lists(item) for item in value] if isinstance(value, (list, tuple)) else value


def as_tuples(value):
    return tuple(as_tuples(item) for item in value) if isinstance(value, (list, tuple)) else value


class StaysTest(unittest.TestCase):
    def test_costs_times_an_integer(self):
        for case in cases(11, 20):
            before = case.answers()
            far = distance(case.scheme, case.words[0], case.target, case.costs)
            for factor in (2, 7, 10 ** 20):
                great = copy.copy(case)
                great.costs = {name: factor * number for name, number in case.costs.items()}
                self.assertEqual(distance(case.scheme, case.words[0], case.target, great.costs), factor * far)
                for key in ("cheapest", "nearest", "order at", "broken"):
                    self.assertEqual(great.answers()[key], before[key])

    def test_other_names_of_costs(self):
        for case in cases(12, 24):
            other = copy.copy(case)
            other.scheme = with_other_names(case.scheme, ["z", "keep", "swaps", "abcdefgh"])
            other.costs = dict(zip(other.scheme.costs, case.costs.values()))
            self.assertEqual(other.answers(), case.answers())

    def test_words_from_right_to_left(self):
        for case in cases(13, 24):
            other = copy.copy(case)
            other.words, other.target = backwards(case.words), backwards(case.target)
            other.choices = backwards(case.choices)
            self.assertEqual({key: backwards(value) for key, value in other.answers().items()}, case.answers())

    def test_lists_and_tuples(self):
        for case in cases(14, 20):
            for change in (as_lists, as_tuples):
                other = copy.copy(case)
                other.words, other.facts, other.choices = change(case.words), change(case.facts), change(case.choices)
                before = copy.deepcopy([other.words, other.facts, other.choices])
                self.assertEqual(other.answers(), case.answers())
                self.assertEqual([other.words, other.facts, other.choices], before)

    def test_the_same_is_told_again(self):
        together = cases(15, 20)
        first = [case.answers() for case in together]
        for case, told in reversed(list(zip(together, first))):
            self.assertEqual(case.answers(), told)

    def test_keys_in_any_order(self):
        for case in cases(16, 20):
            other = copy.copy(case)
            other.costs = dict(reversed(list(case.costs.items())))
            self.assertEqual(other.answers(), case.answers())


class EvidenceTest(unittest.TestCase):
    def test_costs_hold_for_everything_that_is_sure(self):
        for case in cases(17, 60):
            scheme, words, target, known = case.scheme, case.words, case.target, case.known()
            answers = [explained(scheme, case.facts, case.choices)]
            answers += [why(scheme, target, words[0], relation, words[-1], **known) for relation in RELATIONS]
            answers += [WordList(scheme, words).why_nearest(target, word, **known) for word in words]
            sure = sure_order(WordList(scheme, words), target, **known)
            low, high = bounds(scheme, scheme.costs[0], scheme.costs[-1], **known)
            for costs in [answer[1] for answer in answers if answer[0] == "costs"]:
                self.assertTrue(all_true(scheme, case.facts, case.choices, costs))
                self.assertEqual(broken(scheme, case.facts, case.choices, costs), ([], []))
                one, other = costs[scheme.costs[0]], costs[scheme.costs[-1]]
                self.assertTrue((low is None or low * other <= one) and (high is None or one <= high * other))
                for word, relation, more in sure:
                    difference = (distance(scheme, word, target, costs) - distance(scheme, more, target, costs))
                    self.assertEqual(relation, "nearer" if difference < 0 else "same" if difference == 0 else "farther")
                order = order_at(scheme, target, words, costs)
                self.assertIn(order, order_list(WordList(scheme, words), target, **known))
                best = nearest(scheme, target, words, costs)
                self.assertIn(best, [chosen for chosen, _ in WordList(scheme, words).nearest_sets(target, **known)])

    def test_never_costs_and_a_tree(self):
        for case in cases(18, 60):
            answer = explained(case.scheme, case.facts, case.choices)
            tree = answer[1] if answer[0] == "tree" else []
            self.assertIs(shows_tree(case.scheme, case.facts, case.choices, tree), answer[0] == "tree")
            rows = [(numbers, strict) for numbers, strict in case.facts]
            told = settle(len(case.scheme.costs), rows)
            if told[0] == "sum":
                self.assertTrue(shows_sum(len(case.scheme.costs), rows, told[1]))
                self.assertEqual(answer[0], "tree")


class ResultsAsArgumentsTest(unittest.TestCase):
    def test_results_may_be_passed(self):
        for case in cases(19, 40):
            scheme, words, target, known = case.scheme, WordList(case.scheme, case.words), case.target, case.known()
            self.assertEqual(scheme_of(scheme_text(scheme)), scheme)
            self.assertEqual([fact_of(scheme, fact_text(scheme, fact)) for fact in case.facts], case.facts)
            self.assertEqual([choice_of(choice_text(choice)) for choice in case.choices], case.choices)
            for order in order_list(words, target, **known):
                self.assertIs(is_order(words, order), True)
                answer = why_order(words, target, order, **known)
                self.assertEqual(order_at(words.scheme(), target, words.words(), answer[1]), order)
            for chosen, costs in words.nearest_sets(target, **known):
                self.assertEqual(nearest(scheme, target, words.words(), costs), chosen)
                self.assertEqual(WordList(scheme, chosen).words(), tuple(chosen))
            for relation in RELATIONS:
                answer = why(scheme, target, case.words[0], relation, case.words[-1], **known)
                if answer[0] == "tree":
                    self.assertIs(shows_why(scheme, target, case.words[0], relation, case.words[-1], answer[1], **known),
                                  True)

    def test_a_session_can_be_said_again(self):
        session = Session(small_scheme())
        for line in ["word ab", "fact 2 indel >= swap", "choice a: b < -", "rename swap near", "word -", "leave ab"]:
            session.say(line)
        again = Session(small_scheme())
        again.say_all(session.done())
        for line in ("show", "facts", "choices", "words", "changes", "orders a", "bounds near indel"):
            self.assertEqual(again.say(line), session.say(line))


if __name__ == "__main__":
    unittest.main()
