"""Promises [73] and [74]: costs that explain facts and choices, trees that show that there are none, and conflicts."""

import copy
import random
import unittest
from unittest import mock

from evidence import (
    check_answer, choice_is_true, counts_between, drawn_choices, drawn_facts, more_schemes, small_scheme, true_costs,
    tree_shows,
)
from sample_values import any_values
from seenchoices import knowledge
from seenchoices.choices import conflict, explained, shows_tree
from seenchoices.schemes import Scheme

FACTS = [((1, -2), False)]
CHOICE = ("horse", "hose", "house", False)


def drawn_cases(seed, many):
    """Schemes with facts and choices that can hold together, and with such that cannot."""
    source = random.Random(seed)
    for at in range(many):
        scheme = more_schemes()[at % len(more_schemes())]
        yield (scheme, drawn_facts(source, scheme, 3), drawn_choices(source, "abc"[:2 + at % 2], (2, 4, 7)[at % 3]),
               source)


def conflicting(scheme, facts, choices):
    return explained(scheme, facts, choices)[0] == "tree"


def left_over(scheme, facts, choices):
    """What promise [74] says of conflict: one item after another is left out where it can be."""
    kept = [("fact", index) for index in range(len(facts))] + [("choice", index) for index in range(len(choices))]

    def cannot_hold(parts):
        return conflicting(scheme, [facts[index] for word, index in parts if word == "fact"],
                           [choices[index] for word, index in parts if word == "choice"])

    if not cannot_hold(kept):
        return None
    for part in list(kept):
        fewer = [other for other in kept if other != part]
        kept = fewer if cannot_hold(fewer) else kept
    return ([index for word, index in kept if word == "fact"], [index for word, index in kept if word == "choice"])


def changed_values(value, source):
    """Values that differ from a value in one place inside it."""
    found = [None, True, False, 0, 1, -1, 2, "", "case", "sum", "fact", "choice", [], (), {}]
    if isinstance(value, int):
        found += [value + 1, value - 1, -value, bool(value), 10 ** 29]
    if isinstance(value, (list, tuple)):
        found += [list(value) if isinstance(value, tuple) else tuple(value), value[:-1], value + value[:1]]
        for at in range(len(value)):
            inner = changed_values(value[at], source)
            for other in source.sample(inner, min(len(inner), 12)):
                parts = [*value[:at], other, *value[at + 1:]]
                found.append(tuple(parts) if isinstance(value, tuple) else parts)
    return found


def is_right_tree(scheme, facts, choices, value):
    """tree_shows for any value: what cannot be read is no tree, and True and False are no integers."""
    def same_kinds(part):
        if isinstance(part, (list, tuple)):
            return all(same_kinds(item) for item in part)
        return isinstance(part, str) or part.__class__ is int

    def has_the_forms():
        for row in value:
            if row[0] == "case":
                word, index, children = row
                if not (0 <= index < len(choices) and all(0 <= child < len(value) for child in children)):
                    return False
            elif row[0] == "sum":
                for (word, index, *counts), _ in row[1]:
                    known = facts if word == "fact" and not counts else choices
                    if word not in ("fact", "choice") or not 0 <= index < len(known):
                        return False
                    if word == "choice" and len(counts) != 1:
                        return False
                if len(row) != 2:
                    return False
            else:
                return False
        return True

    try:
        return same_kinds(value) and bool(value) and has_the_forms() and tree_shows(scheme, facts, choices, value)
    except (TypeError, ValueError, IndexError, KeyError, AttributeError):
        return False


class ExplainedTest(unittest.TestCase):
    def test_costs_or_a_tree(self):
        seen = {"costs": 0, "tree": 0}
        for scheme, facts, choices, _ in drawn_cases(74, 400):
            answer = explained(scheme, facts, choices)
            seen[check_answer(self, scheme, facts, choices, answer)] += 1
            if answer[0] == "tree":
                self.assertIs(shows_tree(scheme, facts, choices, answer[1]), True)
        self.assertGreater(min(seen.values()), 60)

    def test_against_costs_that_decide(self):
        for scheme, facts, choices, _ in drawn_cases(73, 300):
            if len(scheme.costs) <= 2:
                possible = true_costs(scheme, facts, choices, [])
                self.assertEqual(explained(scheme, facts, choices)[0], "costs" if possible else "tree")

    def test_nothing_is_known(self):
        for scheme in more_schemes():
            self.assertEqual(check_answer(self, scheme, [], [], explained(scheme, [], [])), "costs")

    def test_facts_alone(self):
        for facts, expected in [([((1, -1), True)], "costs"), ([((1, -1), True), ((-1, 1), False)], "tree"),
                                ([((-1, -1), False)], "tree"), ([((0, 0), True)], "tree"), ([((0, 0), False)], "costs"),
                                ([((-1, 0), False)], "tree"), ([((1, -1), False), ((-1, 1), False)], "costs")]:
            self.assertEqual(check_answer(self, small_scheme(), facts, [], explained(small_scheme(), facts, [])),
                             expected)

    def test_just_one_quotient_is_left(self):
        facts = [((100, -99), False), ((-100, 99), False)]
        self.assertEqual(explained(small_scheme(), facts, []), ("costs", {"indel": 99, "swap": 100}))

    def test_choices_alone(self):
        for choices, expected in [([("a", "b", "b", True)], "tree"), ([("a", "b", "b", False)], "costs"),
                                  ([("ab", "abc", "ab", False)], "tree"), ([("ab", "ab", "abc", True)], "costs"),
                                  ([CHOICE, ("horse", "house", "hose", True)], "tree"),
                                  ([CHOICE, ("horse", "house", "hose", False)], "costs")]:
            self.assertEqual(check_answer(self, small_scheme(), [], choices, explained(small_scheme(), [], choices)),
                             expected)

    def test_a_choice_with_several_cases(self):
        facts = [((-1, 1), True)]
        choices = [("ca", "abc", "cabb", True)]
        self.assertEqual(counts_between(small_scheme(), "abc", "ca"), [(1, 2), (3, 0)])
        answer = explained(small_scheme(), facts, choices)
        self.assertEqual(check_answer(self, small_scheme(), facts, choices, answer), "tree")
        self.assertEqual(answer[1][0], ("case", 0, (1, 2)))

    def test_the_most_that_may_be_passed(self):
        source = random.Random(6)
        for scheme in more_schemes():
            costs = {name: source.randint(1, 9) for name in scheme.costs}
            choices = []
            while len(choices) < 16:
                words = ["".join(source.choice("abc") for _ in range(5)) for _ in range(3)]
                first = choice_is_true(scheme, (*words, False), costs)
                choices.append((words[0], words[1 if first else 2], words[2 if first else 1], False))
            facts = [((1, *(0 for _ in scheme.costs[1:])), False)] * 6
            self.assertEqual(check_answer(self, scheme, facts, choices, explained(scheme, facts, choices)), "costs")
            target, one, other, _ = choices[0]
            against = choices[:15] + [(target, other, one, True)]
            self.assertEqual(check_answer(self, scheme, facts, against, explained(scheme, facts, against)), "tree")

    def test_lists_and_names(self):
        choices = [list(CHOICE)]
        self.assertEqual(explained(scheme=small_scheme(), facts=([[1, -2], False],), choices=choices),
                         explained(small_scheme(), FACTS, [CHOICE]))
        rows = explained(small_scheme(), [((-1, 1), True)], [("horse", "house", "hose", False)])[1]
        self.assertIs(shows_tree(scheme=small_scheme(), facts=([[-1, 1], True],),
                                 choices=(["horse", "house", "hose", False],), rows=rows), True)

    def test_results_are_new_and_the_same_behind_other_questions(self):
        for scheme, facts, choices, _ in drawn_cases(9, 60):
            before = copy.deepcopy([facts, choices])
            first = explained(scheme, facts, choices)
            expected = copy.deepcopy(first)
            conflict(scheme, facts, choices)
            for row in first[1] if first[0] == "tree" else []:
                if row[0] == "sum":
                    row[1].clear()
            first[1].clear()
            self.assertEqual(explained(scheme, facts, choices)[0], expected[0])
            self.assertEqual(check_answer(self, scheme, facts, choices, explained(scheme, facts, choices)), expected[0])
            self.assertEqual([facts, choices], before)

    def test_costs_times_an_integer_and_other_names(self):
        other = Scheme(["x", "y"], add="x", drop="x", swap="y")
        for scheme, facts, choices, _ in drawn_cases(11, 120):
            backwards = [tuple([*(word[::-1] for word in choice[:3]), choice[3]]) for choice in choices]
            answer = explained(scheme, facts, choices)
            self.assertEqual(explained(scheme, facts, backwards)[0], answer[0])
            if answer[0] == "costs":
                self.assertEqual(explained(scheme, facts, backwards)[0], "costs")
            if scheme == small_scheme():
                self.assertEqual(explained(other, facts, choices)[0], answer[0])


class ShowsTreeTest(unittest.TestCase):
    def test_values_close_to_a_tree(self):
        seen = {True: 0, False: 0}
        for scheme, facts, choices, source in drawn_cases(75, 60):
            answer = explained(scheme, facts, choices)
            if answer[0] == "costs":
                self.assertIs(shows_tree(scheme, facts, choices, [("sum", [(("fact", 0), 1)])]), False)
                continue
            for value in changed_values(answer[1], source) + [answer[1]]:
                expected = is_right_tree(scheme, facts, choices, value)
                seen[expected] += 1
                self.assertIs(shows_tree(scheme, facts, choices, value), expected, (facts, choices, value))
        self.assertGreater(min(seen.values()), 20)

    def test_values_of_any_kind(self):
        for value in any_values() + [[()], [[]], [("sum",)], [("sum", [])], [("sum", ())], [("case",)], [("case", 0)],
                                     [("case", 0, ())], [("case", 0, (0,))], [("case", 0, (1,)), None], [None],
                                     [("sum", [None])], [("sum", [(None, 1)])], [("sum", [((), 1)])]]:
            self.assertIs(shows_tree(small_scheme(), FACTS, [CHOICE], value), False)

    def sums(self, facts, terms):
        return shows_tree(small_scheme(), facts, [], [("sum", terms)])

    def test_sums_of_facts(self):
        facts = [((1, -2), False), ((-1, 1), False), ((-1, 2), True)]
        one, two, three = ("fact", 0), ("fact", 1), ("fact", 2)
        for terms, expected in [([(one, 1), (two, 1)], True), ([(one, 1), (two, 2)], True),
                                ([(one, 2), (two, 1)], False), ([(one, 1), (three, 1)], True),
                                ([(one, 1), (three, 2)], False), ([(one, 1)], False),
                                ([(two, 1)], False), ([(one, 7), (three, 7)], True), ([], False),
                                ([(one, 1), (two, 1), (one, 1)], False), ([(one, 1), (two, 0)], False),
                                ([(one, 1), (two, 1), (three, 0)], False), ([(one, True), (two, 1)], False),
                                ([(("fact", 3), 1)], False), ([(("fact", -3), 1), (two, 1)], False),
                                ([(("fact", False), 1), (two, 1)], False), ([[one, 1], (two, 1)], False),
                                ([(["fact", 0], 1), (two, 1)], False), ([(("fact", 0, 0), 1), (two, 1)], False)]:
            self.assertIs(self.sums(facts, terms), expected, terms)
        self.assertIs(self.sums(facts, ((one, 1), (two, 1))), False)

    def test_a_sum_of_zeros_needs_a_strict_row(self):
        facts = [((1, -1), False), ((-1, 1), False), ((-1, 1), True)]
        self.assertIs(self.sums(facts, [(("fact", 0), 1), (("fact", 1), 1)]), False)
        self.assertIs(self.sums(facts, [(("fact", 0), 1), (("fact", 2), 1)]), True)

    def test_cases(self):
        facts = [((-1, 1), True)]
        choices = [("ca", "abc", "cabb", True)]
        right = [("case", 0, (1, 2)), ("sum", [(("choice", 0, (2, 0)), 1), (("fact", 0), 2)]),
                 ("sum", [(("choice", 0, (2, 0)), 1)])]
        swapped = [("case", 0, (2, 1)), right[2], right[1]]
        for rows, expected in [
            (right, True), (swapped, True), (tuple(right), False), (right[:2], False), (right + [right[2]], False),
            ([right[0], right[2], right[1]], False),
            ([("case", 0, (1, 1)), right[2], right[2]], False), ([("case", 0, (1,)), right[1]], False),
            ([("case", 0, [1, 2]), *right[1:]], False), ([("case", 0, (1, 2, 2)), *right[1:]], False),
            ([("case", False, (1, 2)), *right[1:]], False), ([("case", 0, (True, 2)), *right[1:]], False),
            ([("case", 1, (1, 2)), *right[1:]], False), ([("case", -1, (1, 2)), *right[1:]], False),
            ([["case", 0, (1, 2)], *right[1:]], False), ([("case", 0, (0, 2)), *right[1:]], False),
            ([right[0], right[1], ("sum", [(("choice", 0, [2, 0]), 1)])], False),
            ([right[0], right[1], ("sum", [(("choice", 0, (2, False)), 1)])], False),
            ([right[0], right[1], ("sum", [(("choice", 0, (4, 0)), 1)])], False),
            ([right[0], right[1], ("sum", [(("choice", 0), 1)])], False),
            ([right[0], right[1], ("sum", [(("choice", 1, (2, 0)), 1)])], False),
            ([right[0], right[1], ("case", 0, (3, 4)), right[1], right[2]], False),
            ([right[2]], False), (right[1:], False),
            ([("case", 0, (1, 1)), right[2]], False), ([("case", 0, (1, 3)), *right[1:]], False),
            ([("case", 0, (-1, 1)), right[2]], False),
            ([right[0], right[1], ("sum", [(("choice", 0, (2, 0), 0), 1)])], False),
            ([right[0], right[1], ("sum", [(("choice",), 1)])], False),
            ([right[0], right[1], ("sum", [(("choice", 0, (2, 0)), 1), (("fact",), 1)])], False),
        ]:
            self.assertIs(is_right_tree(small_scheme(), facts, choices, rows), expected, rows)
            self.assertIs(shows_tree(small_scheme(), facts, choices, rows), expected, rows)

    def test_the_tree_belongs_to_its_facts_and_choices(self):
        facts, choices = [((-1, 1), True)], [("horse", "house", "hose", False)]
        rows = explained(small_scheme(), facts, choices)[1]
        self.assertIs(shows_tree(small_scheme(), facts, choices, rows), True)
        self.assertIs(shows_tree(small_scheme(), [((-1, 2), True)], choices, rows), False)
        self.assertIs(shows_tree(small_scheme(), [], choices, rows), False)
        self.assertIs(shows_tree(small_scheme(), facts, [CHOICE], rows), False)
        self.assertIs(shows_tree(small_scheme(), facts, [], rows), False)
        self.assertIs(shows_tree(small_scheme(), facts + FACTS, choices + [CHOICE], rows), True)


class ConflictTest(unittest.TestCase):
    def test_against_leaving_out_one_after_another(self):
        seen = {True: 0, False: 0}
        for scheme, facts, choices, source in drawn_cases(76, 200):
            facts = facts + facts[:source.randint(0, 1)]
            choices = choices + choices[:source.randint(0, 2)]
            found = conflict(scheme, facts, choices)
            seen[found is None] += 1
            self.assertEqual(found, left_over(scheme, facts, choices))
            if found is not None:
                self.assertEqual([found.__class__, found[0].__class__, found[1].__class__], [tuple, list, list])
        self.assertGreater(min(seen.values()), 30)

    def test_later_ones_are_kept(self):
        against = [((1, -1), True), ((-1, 1), True), ((1, -1), True), ((-1, 1), True)]
        self.assertEqual(conflict(small_scheme(), against, []), ([2, 3], []))
        choices = [CHOICE, ("horse", "house", "hose", True), CHOICE]
        self.assertEqual(conflict(small_scheme(), [], choices), ([], [1, 2]))
        self.assertEqual(conflict(small_scheme(), [((1, -1), True), ((0, 0), True)], choices), ([], [1, 2]))
        self.assertEqual(conflict(small_scheme(), [((0, 0), True)], choices[:2]), ([], [0, 1]))
        self.assertEqual(conflict(small_scheme(), [((0, 0), True)], choices[:1]), ([0], []))

    def test_none(self):
        self.assertIsNone(conflict(small_scheme(), [], []))
        self.assertIsNone(conflict(scheme=small_scheme(), facts=(), choices=([*CHOICE],)))

    def test_results_are_new(self):
        against = ([[0, 0], True],)
        first = conflict(small_scheme(), against, ())
        first[0].clear()
        first[1].append(3)
        self.assertEqual(conflict(scheme=small_scheme(), facts=against, choices=()), ([0], []))


# Choices for which a search through all cases looks at many thousands of paths; four of them contradict each other.
HARD_CHOICES = [
    ("bdacd", "bcdcab", "caac", False), ("dbbba", "bcadda", "baaac", True), ("dbcacb", "dcdcaa", "acbd", False),
    ("adcddc", "bcb", "dabab", False), ("adbdcb", "dcaccd", "dbb", True), ("aaaa", "ddb", "bbb", True),
    ("dbad", "abc", "bdddc", False), ("dada", "daa", "bdcbda", False), ("dacc", "cdbca", "cdd", False),
    ("bcbd", "dddcca", "aad", False), ("acc", "dcbdc", "abcdad", False), ("abdb", "bdcbcb", "dbbad", False),
    ("ccaaa", "bbaaad", "abcc", True), ("acada", "ccda", "dba", False), ("dbba", "bbd", "adb", False),
    ("abadcd", "ddddb", "caaa", False),
]


class LongSearchTest(unittest.TestCase):
    def test_choices_with_very_many_cases(self):
        scheme = Scheme(["p", "q", "r", "s"], add="p", drop="q", swap="r", groups=[("abc", "s")])
        answer = explained(scheme, [], HARD_CHOICES)
        self.assertEqual(check_answer(self, scheme, [], HARD_CHOICES, answer), "tree")
        self.assertIs(shows_tree(scheme, [], HARD_CHOICES, answer[1]), True)
        self.assertEqual(conflict(scheme, [], HARD_CHOICES), ([], [4, 6, 9, 11]))
        kept = [HARD_CHOICES[index] for index in (4, 6, 9, 11)]
        self.assertEqual(check_answer(self, scheme, [], kept, explained(scheme, [], kept)), "tree")
        for index in range(4):
            fewer = kept[:index] + kept[index + 1:]
            self.assertEqual(check_answer(self, scheme, [], fewer, explained(scheme, [], fewer)), "costs")

    def test_the_same_is_told_where_the_search_ends_early(self):
        for scheme, facts, choices, source in drawn_cases(77, 150):
            choices = choices + choices[:source.randint(0, 2)]
            answer, found = explained(scheme, facts, choices), conflict(scheme, facts, choices)
            for most in (0, 1, 3):
                with mock.patch.object(knowledge, "SOME_PATHS", most):
                    other = explained(scheme, facts, choices)
                    self.assertEqual(check_answer(self, scheme, facts, choices, other), answer[0])
                    self.assertEqual(conflict(scheme, facts, choices), found)


if __name__ == "__main__":
    unittest.main()
