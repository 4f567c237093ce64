"""Promises [81] to [83]: what is sure of two words, of facts and of quotients of costs."""

import copy
import random
import unittest

from evidence import (
    check_answer, choices_for, drawn_choices, drawn_facts, drawn_word, far, more_schemes, small_scheme, true_costs,
    tree_shows, worth,
)
from sample_values import CHOICE, FACT, any_values, plain_scheme, raised, wrong_choices, wrong_facts
from seenchoices import sure
from seenchoices.choices import explained
from seenchoices.errors import (
    InvalidChoice, InvalidFact, InvalidPart, InvalidRelation, InvalidWord, NotScheme, UnknownCost,
)
from seenchoices.schemes import Scheme
from seenchoices.sure import bounds, follows, never_farther, relations, shows_why, why

RELATIONS = ["nearer", "same", "farther"]
CONTRADICTION = [((1, -1), True), ((-1, 1), True)]


def drawn_questions(seed, many):
    source = random.Random(seed)
    for at in range(many):
        scheme = more_schemes()[at % len(more_schemes())]
        letters = "abc"[:2 + at % 2]
        words = [drawn_word(source, letters) for _ in range(3)]
        yield scheme, words, drawn_facts(source, scheme, 2), drawn_choices(source, letters, 3), source


def relation_at(scheme, target, one, other, costs):
    difference = far(scheme, one, target, costs) - far(scheme, other, target, costs)
    return "nearer" if difference < 0 else "farther" if difference > 0 else "same"


class RelationsTest(unittest.TestCase):
    def test_costs_or_a_tree_for_each_relation(self):
        seen = {"costs": 0, "tree": 0}
        for scheme, (target, one, other), facts, choices, _ in drawn_questions(81, 150):
            found = relations(scheme, target, one, other, facts=facts, choices=choices)
            answers = {}
            for relation in RELATIONS:
                answer = why(scheme, target, one, relation, other, facts=facts, choices=choices)
                more = choices + choices_for(target, one, relation, other)
                answers[relation] = check_answer(self, scheme, facts, more, answer)
                seen[answer[0]] += 1
                if answer[0] == "tree":
                    self.assertIs(shows_why(scheme, target, one, relation, other, answer[1], facts=facts,
                                            choices=choices), True)
                else:
                    self.assertEqual(relation_at(scheme, target, one, other, answer[1]), relation)
            self.assertEqual(found, [relation for relation in RELATIONS if answers[relation] == "costs"])
            self.assertEqual(found == [], explained(scheme, facts, choices)[0] == "tree")
            self.assertIs(never_farther(scheme, target, one, other, facts=facts, choices=choices),
                          "farther" not in found)
        self.assertGreater(min(seen.values()), 60)

    def test_against_costs_that_decide(self):
        for scheme, (target, one, other), facts, choices, _ in drawn_questions(82, 250):
            if len(scheme.costs) <= 2:
                possible = true_costs(scheme, facts, choices, [(one, target), (other, target)])
                told = {relation_at(scheme, target, one, other, costs) for costs in possible}
                self.assertEqual(relations(scheme, target, one, other, facts=facts, choices=choices),
                                 [relation for relation in RELATIONS if relation in told])

    def test_the_same_word(self):
        self.assertEqual(relations(small_scheme(), "a", "b", "b"), ["same"])
        self.assertEqual(relations(small_scheme(), "a", "a", "b"), ["nearer"])
        self.assertIs(never_farther(small_scheme(), "a", "b", "b"), True)

    def test_between_nearer_and_farther_there_may_be_a_gap(self):
        # The choice excludes just the costs at which both words are at the same distance.
        gap = [("ca", "abc", "xxcy", True)]
        self.assertEqual(relations(small_scheme(), "horse", "hose", "house", choices=gap), ["nearer", "farther"])
        equal = [((-1, 1), False), ((1, -1), False)]
        self.assertEqual(relations(small_scheme(), "horse", "hose", "house", facts=equal), ["same"])
        self.assertEqual(relations(small_scheme(), "horse", "hose", "house", facts=equal, choices=gap), [])

    def test_contradictions(self):
        self.assertEqual(relations(small_scheme(), "a", "b", "c", facts=CONTRADICTION), [])
        self.assertIs(never_farther(small_scheme(), "a", "b", "a", facts=CONTRADICTION), True)
        answer = why(small_scheme(), "a", "a", "nearer", "b", facts=CONTRADICTION)
        self.assertEqual(check_answer(self, small_scheme(), CONTRADICTION, [("a", "a", "b", True)], answer), "tree")
        self.assertIs(follows(small_scheme(), ((-1, -1), True), facts=CONTRADICTION), True)
        self.assertEqual(bounds(small_scheme(), "swap", "indel", facts=CONTRADICTION), (100, 1))
        self.assertEqual(bounds(small_scheme(), "swap", "swap", choices=[("a", "b", "a", False)]), (100, 1))

    def test_names_and_lists(self):
        facts, choices = ([[-1, 1], True],), (["horse", "hose", "house", False],)
        self.assertEqual(relations(scheme=small_scheme(), target="horse", one="hose", other="house", facts=facts,
                                   choices=choices), ["nearer"])
        answer = why(scheme=small_scheme(), target="horse", one="hose", relation="same", other="house", facts=facts,
                     choices=choices)
        self.assertIs(shows_why(scheme=small_scheme(), target="horse", one="hose", relation="same", other="house",
                                rows=answer[1], facts=facts, choices=choices), True)
        self.assertIs(never_farther(scheme=small_scheme(), target="horse", one="hose", other="house", facts=facts,
                                    choices=choices), True)
        self.assertIs(follows(scheme=small_scheme(), fact=[[-2, 2], True], facts=facts, choices=choices), True)
        self.assertEqual(bounds(scheme=small_scheme(), one="swap", other="indel", facts=facts, choices=choices),
                         (1, None))

    def test_parts_by_name_only(self):
        for call, arguments in [(relations, ("a", "b", "c")), (why, ("a", "b", "same", "c")),
                                (never_farther, ("a", "b", "c")), (follows, (FACT,)), (bounds, ("swap", "indel")),
                                (shows_why, ("a", "b", "same", "c", []))]:
            with self.assertRaises(TypeError):
                call(small_scheme(), *arguments, [], [])


class ShowsWhyTest(unittest.TestCase):
    def test_the_tree_belongs_to_its_question(self):
        facts = [((-1, 1), True)]
        rows = why(small_scheme(), "horse", "hose", "farther", "house", facts=facts)[1]
        self.assertTrue(tree_shows(small_scheme(), facts, [("horse", "house", "hose", True)], rows))
        for relation, known, expected in [("farther", facts, True), ("nearer", facts, False), ("same", facts, False),
                                          ("farther", [], False), ("farther", [((1, -1), True)], False)]:
            self.assertIs(shows_why(small_scheme(), "horse", "hose", relation, "house", rows, facts=known), expected)
        self.assertIs(shows_why(small_scheme(), "horse", "house", "farther", "hose", rows, facts=facts), False)
        self.assertIs(shows_why(small_scheme(), "horse", "hose", "farther", "house", tuple(rows), facts=facts), False)

    def test_the_choices_of_the_relation_come_behind_the_others(self):
        choices = [("a", "b", "c", False)]
        rows = why(small_scheme(), "ab", "abc", "nearer", "ab", choices=choices)[1]
        self.assertEqual([row[1] for row in rows if row[0] == "case"], [1])
        self.assertIs(shows_why(small_scheme(), "ab", "abc", "nearer", "ab", rows, choices=choices), True)
        self.assertIs(shows_why(small_scheme(), "ab", "abc", "nearer", "ab", rows), False)

    def test_values_of_any_kind(self):
        for value in any_values():
            self.assertIs(shows_why(small_scheme(), "ab", "abc", "nearer", "ab", value), False)


class FollowsTest(unittest.TestCase):
    def test_against_costs_that_decide(self):
        seen = {True: 0, False: 0}
        for scheme, _, facts, choices, source in drawn_questions(83, 300):
            for fact in drawn_facts(source, scheme, 3) if len(scheme.costs) <= 2 else []:
                possible = true_costs(scheme, facts + [fact], choices, [])
                sure_there = [worth(scheme, fact[0], costs) for costs in true_costs(scheme, facts, choices, [])]
                expected = all(total > 0 or (total == 0 and not fact[1]) for total in sure_there)
                if len(possible) < len(sure_there):
                    self.assertIs(follows(scheme, fact, facts=facts, choices=choices), False)
                found = follows(scheme, fact, facts=facts, choices=choices)
                if not expected:
                    self.assertIs(found, False)
                seen[found] += 1
        self.assertGreater(min(seen.values()), 20)

    def test_a_fact_or_its_opposite(self):
        for scheme, _, facts, choices, source in drawn_questions(84, 200):
            for numbers, strict in drawn_facts(source, scheme, 2):
                opposite = (tuple(-number for number in numbers), not strict)
                expected = explained(scheme, facts + [opposite], choices)[0] == "tree"
                self.assertIs(follows(scheme, (numbers, strict), facts=facts, choices=choices), expected)

    def test_what_holds_at_all_costs(self):
        for numbers, strict, expected in [((1, 0), True, True), ((0, 0), False, True), ((0, 0), True, False),
                                          ((1, -1), False, False), ((-1, 0), False, False), ((3, 100), True, True)]:
            self.assertIs(follows(small_scheme(), (numbers, strict)), expected)
        self.assertIs(follows(small_scheme(), ((1, -1), False), facts=[((1, -1), False)]), True)
        self.assertIs(follows(small_scheme(), ((1, -1), True), facts=[((1, -1), False)]), False)
        self.assertIs(follows(small_scheme(), ((2, -2), True), facts=[((1, -1), True)]), True)


class BoundsTest(unittest.TestCase):
    def is_sure(self, scheme, one, factor, other, sign, facts, choices):
        """True if factor times other is at most one (sign 1), at least one (sign -1), by the answer of follows."""
        numbers = [0] * len(scheme.costs)
        numbers[scheme.costs.index(one)] += sign
        numbers[scheme.costs.index(other)] -= sign * factor
        return follows(scheme, (tuple(numbers), False), facts=facts, choices=choices)

    def test_against_follows(self):
        for scheme, _, facts, choices, source in drawn_questions(85, 150):
            one, other = source.choice(scheme.costs), source.choice(scheme.costs)
            low, high = bounds(scheme, one, other, facts=facts, choices=choices)
            if explained(scheme, facts, choices)[0] == "tree":
                self.assertEqual((low, high), (100, 1))
                continue
            if low is None:
                self.assertFalse(self.is_sure(scheme, one, 1, other, 1, facts, choices))
            else:
                self.assertTrue(self.is_sure(scheme, one, low, other, 1, facts, choices))
                self.assertTrue(low == 100 or not self.is_sure(scheme, one, low + 1, other, 1, facts, choices))
            if high is None:
                self.assertFalse(self.is_sure(scheme, one, 100, other, -1, facts, choices))
            else:
                self.assertTrue(self.is_sure(scheme, one, high, other, -1, facts, choices))
                self.assertTrue(high == 1 or not self.is_sure(scheme, one, high - 1, other, -1, facts, choices))

    def test_every_integer(self):
        for factor in range(1, 101):
            exact = [((-factor, 1), False), ((factor, -1), False)]
            self.assertEqual(bounds(small_scheme(), "swap", "indel", facts=exact), (factor, factor))
            self.assertEqual(bounds(small_scheme(), "swap", "indel", facts=exact[:1]), (factor, None))
            self.assertEqual(bounds(small_scheme(), "swap", "indel", facts=exact[1:]), (None, factor))
            self.assertEqual(bounds(small_scheme(), "swap", "indel", facts=[((-factor, 1), True)]), (factor, None))
            self.assertEqual(bounds(small_scheme(), "swap", "indel", facts=[((factor, -1), True)]), (None, factor))

    def test_between_integers_and_beyond(self):
        self.assertEqual(bounds(small_scheme(), "swap", "indel"), (None, None))
        self.assertEqual(bounds(small_scheme(), "swap", "swap"), (1, 1))
        self.assertEqual(bounds(small_scheme(), "swap", "indel", facts=[((-5, 2), False), ((5, -2), False)]), (2, 3))
        self.assertEqual(bounds(small_scheme(), "indel", "swap", facts=[((-5, 2), False), ((5, -2), False)]), (None, 1))
        # 100 times 3 and 100 times 2: the quotient of the first and the last cost is greater than 100.
        great = [((100, -3, 0), False), ((0, 50, -1), False), ((-100, 3, 0), False), ((0, -50, 1), False)]
        self.assertEqual(bounds(plain_scheme(), "turn", "edit", facts=great), (100, None))
        self.assertEqual(bounds(plain_scheme(), "edit", "turn", facts=great), (None, 1))

    def test_choices(self):
        self.assertEqual(bounds(small_scheme(), "swap", "indel", choices=[("horse", "hose", "house", True)]), (1, None))
        self.assertEqual(bounds(small_scheme(), "swap", "indel", choices=[("horse", "house", "hose", True)]), (None, 1))


class ErrorsTest(unittest.TestCase):
    def calls(self):
        """The functions of the module, as functions of facts and choices."""
        return [
            lambda **known: relations(small_scheme(), "a", "b", "c", **known),
            lambda **known: why(small_scheme(), "a", "b", "same", "c", **known),
            lambda **known: shows_why(small_scheme(), "a", "b", "same", "c", "wrong", **known),
            lambda **known: never_farther(small_scheme(), "a", "b", "c", **known),
            lambda **known: follows(small_scheme(), FACT, **known),
            lambda **known: bounds(small_scheme(), "swap", "indel", **known),
        ]

    def test_schemes_come_first(self):
        for value in any_values():
            if not isinstance(value, Scheme):
                for call, many in [(relations, 3), (why, 4), (shows_why, 5), (never_farther, 3), (follows, 1),
                                   (bounds, 2)]:
                    self.assertIs(raised(NotScheme, call, value, *[7] * many, facts=7, choices=7).value, value)

    def test_words(self):
        for value in any_values() + ["abcdefg"]:
            for call in (relations, never_farther):
                for words in ((value, 7, 7), ("a", value, 7), ("a", "b", value)):
                    self.assertIs(raised(InvalidWord, call, small_scheme(), *words, facts=7).value, value)
            for call, last in ((why, ()), (shows_why, (7,))):
                for words in ((value, 7, 7, 7), ("a", value, 7, 7), ("a", "b", "same", value)):
                    self.assertIs(raised(InvalidWord, call, small_scheme(), *words, *last, facts=7).value, value)
                self.assertIs(raised(InvalidRelation, call, small_scheme(), "a", "b", value, 7, *last, facts=7).value,
                              value)

    def test_relations(self):
        for value in ["near", "Nearer", "nearer ", "", ["nearer"], ("same",), 0, 1]:
            self.assertIs(raised(InvalidRelation, why, small_scheme(), "a", "b", value, "c").value, value)

    def test_names_of_costs(self):
        for value in any_values() + ["edit", "swaps", ""]:
            self.assertIs(raised(UnknownCost, bounds, small_scheme(), value, 7, facts=7).label, value)
            self.assertIs(raised(UnknownCost, bounds, small_scheme(), "swap", value, facts=7).label, value)

    def test_the_fact_that_is_asked_about(self):
        for value in wrong_facts():
            self.assertIs(raised(InvalidFact, follows, small_scheme(), value, facts=7).value, value)

    def test_facts_and_choices(self):
        for call in self.calls():
            for value in [None, True, 5, "facts", {}, {0: FACT}]:
                self.assertIs(raised(InvalidPart, call, facts=value, choices=7).value, value)
                self.assertIs(raised(InvalidPart, call, facts=[FACT], choices=value).value, value)
            for value in wrong_facts():
                self.assertIs(raised(InvalidFact, call, facts=[FACT, value, 7], choices=7).value, value)
            for value in wrong_choices():
                self.assertIs(raised(InvalidChoice, call, facts=[], choices=(CHOICE, value, 7)).value, value)


class ResultsTest(unittest.TestCase):
    def test_arguments_stay_and_the_same_is_told_again(self):
        for scheme, (target, one, other), facts, choices, _ in drawn_questions(86, 40):
            before = copy.deepcopy([facts, choices])
            known = {"facts": facts, "choices": choices}
            first = relations(scheme, target, one, other, **known)
            limits = bounds(scheme, scheme.costs[0], scheme.costs[-1], **known)
            expected = list(first)
            first.append("more")
            why(scheme, target, one, "same", other, **known)[1].clear()
            why(scheme, other, target, "nearer", one)
            self.assertEqual(relations(scheme, target, one, other, **known), expected)
            self.assertEqual(bounds(scheme, scheme.costs[0], scheme.costs[-1], **known), limits)
            self.assertEqual([facts, choices], before)

    def test_the_interface_is_defined_here(self):
        for name in "relations why shows_why never_farther follows bounds".split():
            self.assertEqual(getattr(sure, name).__module__, "seenchoices.sure")


if __name__ == "__main__":
    unittest.main()
