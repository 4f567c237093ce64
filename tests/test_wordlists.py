"""Promises [91] to [94]: lists of words, and which of them can be the nearest."""

import copy
import itertools
import random
import unittest

from evidence import (
    all_true, are_costs, check_answer, drawn_choices, drawn_facts, drawn_word, drawn_words, far, more_schemes,
    small_scheme, true_costs,
)
from sample_values import CHOICE, FACT, any_values, plain_scheme, raised, wrong_choices, wrong_facts
from seenchoices.choices import explained, shows_tree
from seenchoices.errors import (
    Duplicate, InvalidChoice, InvalidFact, InvalidPart, InvalidWord, NotScheme, UnknownWord,
)
from seenchoices.schemes import Scheme
from seenchoices.wordlists import WordList

CONTRADICTION = [((1, -1), True), ((-1, 1), True)]


def drawn_lists(seed, many):
    source = random.Random(seed)
    for at in range(many):
        scheme = more_schemes()[at % len(more_schemes())]
        letters = "abc"[:2 + at % 2]
        known = {"facts": drawn_facts(source, scheme, 2), "choices": drawn_choices(source, letters, 3)}
        yield scheme, drawn_words(source, letters, 5), drawn_word(source, letters), known


def nearest_at(scheme, words, target, costs):
    least = min(far(scheme, word, target, costs) for word in words)
    return [word for word in words if far(scheme, word, target, costs) == least]


def set_choices(words, target, chosen):
    """Choices that say that just the chosen words are the nearest ones."""
    return ([(target, one, other, False) for one in chosen for other in words if other != one]
            + [(target, chosen[0], other, True) for other in words if other not in chosen])


def sample_list():
    return WordList(small_scheme(), ["hose", "house", "worse"])


class WordListTest(unittest.TestCase):
    def test_what_was_passed(self):
        scheme, words = plain_scheme(), ["b", "", "abcdef", "a", "ba"]
        found = WordList(scheme, words)
        self.assertIs(found.scheme(), scheme)
        self.assertEqual(found.words(), ("b", "", "abcdef", "a", "ba"))
        self.assertIs(found.words().__class__, tuple)
        self.assertEqual(len(found), 5)
        words.append("c")
        self.assertEqual((len(found), found.words()[-1]), (5, "ba"))
        self.assertEqual(WordList(words=("a",), scheme=scheme).words(), ("a",))

    def test_members(self):
        found = WordList(plain_scheme(), ["b", "", "ab"])
        self.assertEqual([word in found for word in ("b", "", "ab", "a", "ba", "abb")],
                         [True, True, True, False, False, False])
        for value in any_values() + [["b"], ("b",), found, b"b"]:
            self.assertIs(value in found, False)

    def test_equality(self):
        found = WordList(plain_scheme(), ["b", "a"])
        other = Scheme(["edit", "near", "turn"], add="edit", drop="edit", swap="near", turn="turn")
        self.assertTrue(found == WordList(plain_scheme(), ("b", "a")))
        self.assertFalse(found != WordList(plain_scheme(), ("b", "a")))
        for value in [WordList(plain_scheme(), ["a", "b"]), WordList(plain_scheme(), ["b"]),
                      WordList(other, ["b", "a"]), ("b", "a"), ["b", "a"], plain_scheme(), None, "ba"]:
            self.assertFalse(found == value)
            self.assertTrue(found != value)

    def test_errors(self):
        for value in any_values():
            if not isinstance(value, Scheme):
                self.assertIs(raised(NotScheme, WordList, value, 7).value, value)
            for words in ([value], ("a", value, 7), ["a", value, "a"]):
                self.assertIs(raised(InvalidWord, WordList, plain_scheme(), words).value, value)
        for words in [None, True, 5, "abc", "", [], (), {}, {0: "a"}, list("abcdef"), [7] * 6, sample_list()]:
            self.assertIs(raised(InvalidPart, WordList, plain_scheme(), words).value, words)
        again = "".join(["a", "b"])
        for words in [["ab", again, 7], ("c", "ab", again, "c")]:
            self.assertIs(raised(Duplicate, WordList, plain_scheme(), words).label, again)


class NearestTest(unittest.TestCase):
    def test_costs_or_a_tree_for_each_word(self):
        seen = {"costs": 0, "tree": 0}
        for scheme, words, target, known in drawn_lists(92, 80):
            found = WordList(scheme, words)
            can = []
            for word in words:
                answer = found.why_nearest(target, word, **known)
                more = known["choices"] + [(target, word, other, False) for other in words if other != word]
                seen[check_answer(self, scheme, known["facts"], more, answer)] += 1
                if answer[0] == "costs":
                    can.append(word)
                    self.assertIn(word, nearest_at(scheme, words, target, answer[1]))
                else:
                    self.assertIs(shows_tree(scheme, known["facts"], more, answer[1]), True)
            self.assertEqual(found.can_be_nearest(target, **known), can)
        self.assertGreater(min(seen.values()), 30)

    def test_sets_of_words(self):
        for scheme, words, target, known in drawn_lists(93, 60):
            words = words[:4]
            found = WordList(scheme, words).nearest_sets(target, **known)
            self.assertIs(found.__class__, list)
            for pair in found:
                self.assertEqual([pair.__class__, len(pair)], [tuple, 2])
                self.assertTrue(are_costs(scheme, pair[1]))
                self.assertTrue(all_true(scheme, known["facts"], known["choices"], pair[1]))
                self.assertEqual(nearest_at(scheme, words, target, pair[1]), pair[0])
            expected = [list(chosen) for many in range(1, len(words) + 1)
                        for chosen in itertools.combinations(words, many)
                        if explained(scheme, known["facts"],
                                     known["choices"] + set_choices(words, target, chosen))[0] == "costs"]
            self.assertEqual([chosen for chosen, _ in found], expected)

    def test_against_costs_that_decide(self):
        for scheme, words, target, known in drawn_lists(94, 200):
            if len(scheme.costs) > 2:
                continue
            possible = true_costs(scheme, known["facts"], known["choices"], [(word, target) for word in words])
            sets = [nearest_at(scheme, words, target, costs) for costs in possible]
            found = WordList(scheme, words)
            self.assertEqual(found.can_be_nearest(target, **known),
                             [word for word in words if any(word in chosen for chosen in sets)])
            self.assertEqual(found.surely_nearest(target, **known),
                             [word for word in words if all(word in chosen for chosen in sets)])
            self.assertEqual(sorted(chosen for chosen, _ in found.nearest_sets(target, **known)),
                             sorted(list(chosen) for chosen in {tuple(chosen) for chosen in sets}))

    def test_surely_nearest_is_in_all_sets(self):
        for scheme, words, target, known in drawn_lists(95, 80):
            found = WordList(scheme, words)
            sets = [chosen for chosen, _ in found.nearest_sets(target, **known)]
            self.assertEqual(found.surely_nearest(target, **known),
                             [word for word in words if all(word in chosen for chosen in sets)])

    def test_contradictions(self):
        found = sample_list()
        self.assertEqual(found.can_be_nearest("horse", facts=CONTRADICTION), [])
        self.assertEqual(found.surely_nearest("horse", facts=CONTRADICTION), ["hose", "house", "worse"])
        self.assertEqual(found.nearest_sets("horse", facts=CONTRADICTION), [])
        self.assertEqual(found.best_word(["a", "b"], facts=CONTRADICTION), "hose")
        self.assertEqual(found.why_nearest("horse", "hose", facts=CONTRADICTION)[0], "tree")

    def test_one_word(self):
        found = WordList(small_scheme(), [""])
        self.assertEqual([found.can_be_nearest("abc"), found.surely_nearest("abc"), found.best_word(["abc"])],
                         [[""], [""], ""])
        self.assertEqual([chosen for chosen, _ in found.nearest_sets("abc")], [[""]])
        self.assertEqual(found.why_nearest("abc", "")[0], "costs")
        answer = found.why_nearest("abc", "", facts=CONTRADICTION)
        self.assertEqual(check_answer(self, small_scheme(), CONTRADICTION, [], answer), "tree")

    def test_names_and_lists(self):
        facts, choices = ([[1, -1], True],), (list(CHOICE[:3]) + [False],)
        for name in ("can_be_nearest", "surely_nearest", "nearest_sets"):
            call = getattr(sample_list(), name)
            self.assertEqual(call(target="horse", facts=facts, choices=choices),
                             call("horse", facts=[((1, -1), True)], choices=[CHOICE]))
        self.assertEqual(sample_list().why_nearest(target="horse", word="hose", facts=facts, choices=())[0], "tree")
        self.assertEqual(sample_list().best_word(targets=("horse",), facts=facts, choices=()), "house")

    def test_results_are_new_and_the_same_behind_other_questions(self):
        for scheme, words, target, known in drawn_lists(96, 30):
            found, before = WordList(scheme, words), copy.deepcopy(known)
            for name in ("can_be_nearest", "surely_nearest", "nearest_sets"):
                call = getattr(found, name)
                first = call(target, **known)
                expected = copy.deepcopy(first)
                if name == "nearest_sets":
                    self.assertEqual(len({id(part) for pair in first for part in pair}), 2 * len(first))
                    for chosen, costs in first:
                        chosen.clear()
                        costs.clear()
                    first = call(target, **known)
                first.append("more")
                found.why_nearest(target, words[0], **known)[1].clear()
                found.best_word([target, "ab"], **known)
                again = call(target, **known)
                if name == "nearest_sets":
                    self.assertEqual([pair[0] for pair in again], [pair[0] for pair in expected])
                else:
                    self.assertEqual(again, expected)
            self.assertEqual(known, before)


class BestWordTest(unittest.TestCase):
    def test_against_surely_nearest(self):
        seen = {True: 0, False: 0}
        for scheme, words, target, known in drawn_lists(97, 150):
            found = WordList(scheme, words)
            for targets in ([target], [target, words[0]], [words[-1], target, words[-1]], [target] * 5):
                lists = [found.surely_nearest(word, **known) for word in targets]
                best = [word for word in words if all(word in names for names in lists)]
                self.assertEqual(found.best_word(targets, **known), best[0] if best else None)
                seen[best == []] += 1
        self.assertGreater(min(seen.values()), 100)

    def test_the_first_one(self):
        found = WordList(small_scheme(), ["b", "c", "a"])
        self.assertEqual([found.best_word(["z"]), found.best_word(["z", "c"]), found.best_word(["c", "b"])],
                         ["b", "c", None])


class ErrorsTest(unittest.TestCase):
    def calls(self):
        found = sample_list()
        return [
            lambda target, **known: found.can_be_nearest(target, **known),
            lambda target, **known: found.surely_nearest(target, **known),
            lambda target, **known: found.nearest_sets(target, **known),
            lambda target, **known: found.why_nearest(target, "hose", **known),
            lambda target, **known: found.best_word([target], **known),
        ]

    def test_targets(self):
        for value in any_values() + ["abcdefg"]:
            for call in self.calls():
                self.assertIs(raised(InvalidWord, call, value, facts=7, choices=7).value, value)
            self.assertIs(raised(InvalidWord, sample_list().why_nearest, value, 7, facts=7).value, value)

    def test_words_of_the_list(self):
        for value in any_values() + ["a", "", "horse", ["hose"], ("hose",)]:
            self.assertIs(raised(UnknownWord, sample_list().why_nearest, "horse", value, facts=7).label, value)

    def test_lists_of_targets(self):
        for value in [None, True, 5, "abc", "", [], (), {}, {0: "a"}, list("abcdef"), [7] * 6, sample_list()]:
            self.assertIs(raised(InvalidPart, sample_list().best_word, value, facts=7).value, value)
        for value in any_values():
            for targets in (["a", value, 7], (value, "a"), ["a", "a", "a", "a", value]):
                self.assertIs(raised(InvalidWord, sample_list().best_word, targets, facts=7).value, value)

    def test_facts_and_choices(self):
        for call in self.calls():
            for value in [None, True, 5, "facts", {}, {0: FACT}]:
                self.assertIs(raised(InvalidPart, call, "horse", facts=value, choices=7).value, value)
                self.assertIs(raised(InvalidPart, call, "horse", facts=[FACT], choices=value).value, value)
            for value in wrong_facts():
                self.assertIs(raised(InvalidFact, call, "horse", facts=[FACT, value, 7], choices=7).value, value)
            for value in wrong_choices():
                self.assertIs(raised(InvalidChoice, call, "horse", choices=(CHOICE, value, 7)).value, value)

    def test_parts_by_name_only(self):
        for call in self.calls():
            with self.assertRaises(TypeError):
                call("horse", [], [])

    def test_methods_stand_in_the_class_itself(self):
        for name in ("__len__ __contains__ __eq__ scheme words can_be_nearest surely_nearest why_nearest nearest_sets "
                     "best_word").split():
            self.assertIn(name, vars(WordList))
        self.assertEqual(WordList.__module__, "seenchoices.wordlists")


if __name__ == "__main__":
    unittest.main()
