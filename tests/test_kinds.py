"""Promises [111] to [113]: schemes that are alike, kinds of edits that are needless, and costs that are always paid."""

import copy
import itertools
import random
import unittest

from evidence import (
    all_true, are_costs, counts_between, decisive_costs, drawn_facts, drawn_words, far, more_schemes, small_scheme,
    worth,
)
from listing import count_steps, listed
from sample_values import FACT, any_values, plain_scheme, raised, wrong_facts
from seenchoices import kinds as module
from seenchoices.errors import (
    Duplicate, InvalidFact, InvalidKind, InvalidPart, InvalidWord, NotScheme, UnknownCost, UnlikeCosts,
)
from seenchoices.kinds import alike, needing, needless_kinds, parting, paying
from seenchoices.schemes import Scheme, merged, without_groups, without_turns
from seenchoices.systems import settle

KINDS = ["swap", "near", "far", "turn"]
CONTRADICTION = [((1, -1), True), ((-1, 1), True)]


def scheme_pairs():
    """Pairs of schemes with the same costs in the same order."""
    found = [(scheme, call(scheme)) for scheme in more_schemes() for call in (without_turns, without_groups)]
    two = ["indel", "swap"]
    others = [Scheme(two, add="indel", drop="indel", swap="swap", turn="indel"),
              Scheme(two, add="indel", drop="swap", swap="swap"),
              Scheme(two, add="indel", drop="indel", swap="indel", groups=[("ab", "swap")]),
              Scheme(two, add="indel", drop="indel", swap="swap", groups=[("abc", "swap")])]
    return found + list(itertools.permutations([small_scheme()] + others, 2))


def pairs(words):
    return [(word, target) for word in words for target in words if word != target]


def has_kind(scheme, word, row, kind):
    """True if an edit row for a word has a step of a kind."""
    rest = word
    for step in row:
        near = step[0] == "swap" and any(rest[0] in letters and step[1] in letters for letters, _ in scheme.groups)
        if step[0] == kind or (step[0] == "swap" and kind == ("near" if near else "far")):
            return True
        if step[0] != "add":
            rest = rest[2:] if step[0] == "turn" else rest[1:]
    return False


def counts_without(scheme, word, target, kind):
    """The counts of the edit rows between two words that have no step of a kind."""
    return sorted({count_steps(scheme, word, row) for row in listed(scheme, word, target)
                   if not has_kind(scheme, word, row, kind)})


def can_be_cheaper(many, facts, found, others, strict):
    """True if one of the counts can be cheaper than all others (or as cheap, if not strict) where the facts hold."""
    for counts in found:
        rows = [(tuple(b - a for a, b in zip(counts, other)), strict) for other in others]
        if settle(many, facts + rows)[0] == "costs":
            return True
    return False


def drawn_cases(seed, schemes, many):
    source = random.Random(seed)
    for at in range(many):
        scheme = schemes[at % len(schemes)]
        first = scheme[0] if isinstance(scheme, tuple) else scheme
        yield scheme, drawn_words(source, "abc"[:2 + at % 2], 3), drawn_facts(source, first, 2)


class AlikeTest(unittest.TestCase):
    def test_costs_at_which_schemes_part(self):
        seen = {True: 0, False: 0}
        for (one, other), words, facts in drawn_cases(111, scheme_pairs(), 250):
            found = parting(one, other, words, facts=facts)
            self.assertIs(alike(one, other, words, facts=facts), found is None)
            seen[found is None] += 1
            expected = any(
                can_be_cheaper(len(one.costs), facts, first, second, True)
                for word, target in pairs(words)
                for first, second in itertools.permutations([counts_between(one, word, target),
                                                             counts_between(other, word, target)]))
            self.assertEqual(found is not None, expected)
            if found is not None:
                word, target, costs = found
                self.assertEqual(found.__class__, tuple)
                self.assertIn((word, target), pairs(words))
                self.assertTrue(are_costs(one, costs) and all_true(one, facts, [], costs))
                self.assertNotEqual(far(one, word, target, costs), far(other, word, target, costs))
        self.assertGreater(min(seen.values()), 30)

    def test_against_costs_that_decide(self):
        for (one, other), words, facts in drawn_cases(110, scheme_pairs(), 250):
            if len(one.costs) > 2:
                continue
            rows = [(tuple(a - b for a, b in zip(counts, less)), False) for word, target in pairs(words)
                    for counts in counts_between(one, word, target) for less in counts_between(other, word, target)]
            tried = [costs for costs in decisive_costs(one, facts + rows, []) if all_true(one, facts, [], costs)]
            same = all(far(one, word, target, costs) == far(other, word, target, costs)
                       for word, target in pairs(words) for costs in tried)
            self.assertIs(alike(one, other, words, facts=facts), same)

    def test_one_word_and_contradictions(self):
        turns = Scheme(["indel", "swap"], add="indel", drop="indel", swap="swap", turn="indel")
        self.assertIs(alike(small_scheme(), turns, ["ab"]), True)
        self.assertIs(alike(small_scheme(), turns, ["ab", "ba"]), False)
        self.assertIs(alike(small_scheme(), turns, ["ab", "ba"], facts=CONTRADICTION), True)
        self.assertIsNone(parting(small_scheme(), small_scheme(), ["ab", "ba", "", "cccc"]))

    def test_only_one_way_may_part(self):
        other = Scheme(["indel", "swap"], add="swap", drop="indel", swap="swap")
        found = parting(small_scheme(), other, ["a", "aa"])
        self.assertEqual(found[:2], ("a", "aa"))
        self.assertEqual(parting(small_scheme(), other, ["aa", "a"])[:2], ("a", "aa"))

    def test_names_and_lists(self):
        turns = Scheme(["indel", "swap"], add="indel", drop="indel", swap="swap", turn="indel")
        for call in (parting, alike):
            self.assertEqual(call(one=small_scheme(), other=turns, words=("ab", "ba"), facts=([[1, -2], False],)),
                             call(small_scheme(), turns, ["ab", "ba"], facts=[((1, -2), False)]))


class NeedlessTest(unittest.TestCase):
    def test_costs_at_which_a_kind_is_needed(self):
        seen = {True: 0, False: 0}
        for scheme, words, facts in drawn_cases(112, more_schemes(), 60):
            needless = []
            for kind in KINDS:
                found = needing(scheme, words, kind, facts=facts)
                seen[found is None] += 1
                expected = any(
                    can_be_cheaper(len(scheme.costs), facts, counts_between(scheme, word, target),
                                   counts_without(scheme, word, target, kind), True)
                    for word, target in pairs(words))
                self.assertEqual(found is not None, expected)
                if found is None:
                    needless.append(kind)
                    continue
                word, target, costs = found
                self.assertIn((word, target), pairs(words))
                self.assertTrue(are_costs(scheme, costs) and all_true(scheme, facts, [], costs))
                self.assertLess(far(scheme, word, target, costs),
                                min(worth(scheme, counts, costs)
                                    for counts in counts_without(scheme, word, target, kind)))
            self.assertEqual(needless_kinds(scheme, words, facts=facts), needless)
        self.assertGreater(min(seen.values()), 20)

    def test_one_word_and_contradictions(self):
        self.assertEqual(needless_kinds(plain_scheme(), ["abcdef"]), KINDS)
        self.assertEqual(needless_kinds(small_scheme(), ["a", "b"]), ["near", "turn"])
        self.assertEqual(needless_kinds(small_scheme(), ["a", "b"], facts=CONTRADICTION), KINDS)
        self.assertIsNone(needing(small_scheme(), ["a", "b"], "swap", facts=CONTRADICTION))

    def test_swaps_in_a_group_are_near(self):
        self.assertEqual(needless_kinds(plain_scheme(), ["a", "e"]), ["far", "turn"])
        self.assertEqual(needless_kinds(plain_scheme(), ["a", "o"]), ["near", "turn"])
        self.assertEqual(needless_kinds(plain_scheme(), ["ox", "xo"]), ["swap", "near", "far"])
        self.assertEqual(needless_kinds(plain_scheme(), ["ox", "xo"], facts=[((-2, 0, 1), False)]), KINDS)

    def test_names_and_lists(self):
        facts = ([[-2, 1], False],)
        self.assertIsNone(needing(scheme=small_scheme(), words=("ab", "cd"), kind="swap", facts=facts))
        self.assertEqual(needless_kinds(scheme=small_scheme(), words=("ab", "cd"), facts=facts), KINDS)
        self.assertEqual(paying(scheme=small_scheme(), words=("ab", "cd"), cost="swap", facts=facts), [])


class PayingTest(unittest.TestCase):
    def test_against_the_edit_rows(self):
        seen = {True: 0, False: 0}
        for scheme, words, facts in drawn_cases(113, more_schemes(), 150):
            for place, cost in enumerate(scheme.costs):
                expected = []
                for word, target in pairs(words):
                    counts = counts_between(scheme, word, target)
                    free = [some for some in counts if some[place] == 0]
                    if not can_be_cheaper(len(scheme.costs), facts, free, counts, False):
                        expected.append((word, target))
                    seen[(word, target) in expected] += 1
                self.assertEqual(paying(scheme, words, cost, facts=facts), expected)
        self.assertGreater(min(seen.values()), 100)

    def test_against_costs_that_decide(self):
        for scheme, words, facts in drawn_cases(114, more_schemes(), 150):
            if len(scheme.costs) > 2:
                continue
            tried = [costs for costs in decisive_costs(scheme, facts, pairs(words))
                     if all_true(scheme, facts, [], costs)]
            for place, cost in enumerate(scheme.costs):
                expected = [
                    (word, target) for word, target in pairs(words)
                    if all(counts[place] > 0 for costs in tried for counts in counts_between(scheme, word, target)
                           if worth(scheme, counts, costs) == far(scheme, word, target, costs))]
                self.assertEqual(paying(scheme, words, cost, facts=facts), expected)

    def test_examples(self):
        self.assertEqual(paying(small_scheme(), ["a", "ab", "b"], "indel"),
                         [("a", "ab"), ("ab", "a"), ("ab", "b"), ("b", "ab")])
        self.assertEqual(paying(small_scheme(), ["a", "b"], "swap"), [])
        self.assertEqual(paying(small_scheme(), ["a", "b"], "swap", facts=[((2, -1), True)]), [("a", "b"), ("b", "a")])
        self.assertEqual(paying(small_scheme(), ["a", "b"], "swap", facts=[((2, -1), False)]), [])
        self.assertEqual(paying(small_scheme(), ["a", "b"], "indel", facts=CONTRADICTION), [("a", "b"), ("b", "a")])
        self.assertEqual(paying(small_scheme(), ["a"], "indel"), [])


class ErrorsTest(unittest.TestCase):
    def calls(self):
        """The functions of the module, as functions of a scheme, of words and of facts."""
        return [
            lambda scheme, words, **known: parting(scheme, small_scheme(), words, **known),
            lambda scheme, words, **known: alike(scheme, small_scheme(), words, **known),
            lambda scheme, words, **known: needing(scheme, words, "swap", **known),
            lambda scheme, words, **known: needless_kinds(scheme, words, **known),
            lambda scheme, words, **known: paying(scheme, words, "swap", **known),
        ]

    def test_schemes(self):
        for value in any_values():
            if not isinstance(value, Scheme):
                for call in self.calls():
                    self.assertIs(raised(NotScheme, call, value, 7, facts=7).value, value)
                for call in (parting, alike):
                    self.assertIs(raised(NotScheme, call, value, 7, 7, facts=7).value, value)
                    self.assertIs(raised(NotScheme, call, small_scheme(), value, 7, facts=7).value, value)
                self.assertIs(raised(NotScheme, needing, value, 7, 7, facts=7).value, value)
                self.assertIs(raised(NotScheme, paying, value, 7, 7, facts=7).value, value)

    def test_costs_that_are_not_the_same(self):
        turned = Scheme(["swap", "indel"], add="indel", drop="indel", swap="swap")
        for other in (plain_scheme(), turned, merged(small_scheme(), "swap", "indel")):
            for call in (parting, alike):
                self.assertIs(raised(UnlikeCosts, call, small_scheme(), other, 7, facts=7).value, other)

    def test_words(self):
        again = "".join(["a", "b"])
        for call in self.calls():
            for words in [None, True, 5, "abc", "", [], (), {}, {0: "a"}, list("abcdef"), [7] * 6, small_scheme()]:
                self.assertIs(raised(InvalidPart, call, small_scheme(), words, facts=7).value, words)
            for value in any_values():
                for words in ([value], ("a", value, 7), ["a", value, "a"]):
                    self.assertIs(raised(InvalidWord, call, small_scheme(), words, facts=7).value, value)
            self.assertIs(raised(Duplicate, call, small_scheme(), ["ab", again, 7], facts=7).label, again)
        self.assertEqual(raised(InvalidPart, needing, small_scheme(), [], 7, facts=7).value, [])
        self.assertEqual(raised(InvalidPart, paying, small_scheme(), [], 7, facts=7).value, [])

    def test_kinds_and_costs(self):
        for value in any_values() + ["keep", "add", "drop", "Swap", "", ["swap"]]:
            self.assertIs(raised(InvalidKind, needing, small_scheme(), ["a"], value, facts=7).value, value)
        for value in any_values() + ["edit", "", "swaps", ["swap"]]:
            self.assertIs(raised(UnknownCost, paying, small_scheme(), ["a"], value, facts=7).label, value)

    def test_facts(self):
        for call in self.calls():
            for value in [None, True, 5, "facts", {}, {0: FACT}]:
                self.assertIs(raised(InvalidPart, call, small_scheme(), ["a"], facts=value).value, value)
            for value in wrong_facts():
                self.assertIs(raised(InvalidFact, call, small_scheme(), ["a"], facts=(FACT, value, 7)).value, value)

    def test_facts_by_name_only(self):
        for call in self.calls():
            with self.assertRaises(TypeError):
                call(small_scheme(), ["a"], [])


class ResultsTest(unittest.TestCase):
    def test_results_are_new_and_the_same_behind_other_questions(self):
        turns = Scheme(["indel", "swap"], add="indel", drop="indel", swap="swap", turn="indel")
        words, facts = ["ab", "ba", "abc"], [[[1, -3], False]]
        before = copy.deepcopy([words, facts])
        calls = [lambda: needless_kinds(small_scheme(), words, facts=facts),
                 lambda: paying(small_scheme(), words, "indel", facts=facts)]
        for call in calls:
            first = call()
            expected = list(first)
            first.append("more")
            parting(small_scheme(), turns, words, facts=facts)
            needing(small_scheme(), words, "swap", facts=facts)
            self.assertEqual(call(), expected)
        found = parting(small_scheme(), turns, words)
        found[2].clear()
        self.assertTrue(are_costs(small_scheme(), parting(small_scheme(), turns, words)[2]))
        self.assertEqual([words, facts], before)

    def test_the_interface_is_defined_here(self):
        for name in "parting alike needing needless_kinds paying".split():
            self.assertEqual(getattr(module, name).__module__, "seenchoices.kinds")


if __name__ == "__main__":
    unittest.main()
