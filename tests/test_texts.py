"""Promises [121] to [123]: facts, choices and schemes as strings, and back."""

import itertools
import random
import unittest

from evidence import drawn_choices, drawn_facts, more_schemes, small_scheme
from sample_values import any_values, plain_scheme, raised, wrong_choices, wrong_facts
from seenchoices import texts as module
from seenchoices.errors import (
    Duplicate, InvalidChoice, InvalidFact, InvalidGroup, InvalidLine, InvalidText, NotScheme, UnknownCost,
)
from seenchoices.schemes import Scheme
from seenchoices.texts import choice_of, choice_text, fact_of, fact_text, scheme_of, scheme_text

LINES = ["costs edit near turn", "add edit", "drop edit", "swap edit", "group ae near", "group xyz edit", "turn turn"]


class FactTextTest(unittest.TestCase):
    def test_texts(self):
        for fact, text in [
            (((2, -1), True), "2 indel > swap"), (((2, -1), False), "2 indel >= swap"), (((0, 0), True), "0 > 0"),
            (((0, 0), False), "0 >= 0"), (((1, 1), False), "indel + swap >= 0"), (((-1, -1), True), "0 > indel + swap"),
            (((-100, 100), False), "100 swap >= 100 indel"), (((0, -7), False), "0 >= 7 swap"),
            (((-1, 2), True), "2 swap > indel"), (((3, 10), True), "3 indel + 10 swap > 0"),
        ]:
            self.assertEqual(fact_text(small_scheme(), fact), text)
            self.assertEqual(fact_of(small_scheme(), text), fact)

    def test_terms_in_the_order_of_the_costs(self):
        scheme = Scheme(["b", "a", "d", "c"], add="a", drop="a", swap="a")
        self.assertEqual(fact_text(scheme, ((1, -2, 3, -4), False)), "b + 3 d >= 2 a + 4 c")
        self.assertEqual(fact_of(scheme, "b + 3 d >= 2 a + 4 c"), ((1, -2, 3, -4), False))
        self.assertIs(raised(InvalidText, fact_of, scheme, "3 d + b >= 2 a + 4 c").value, "3 d + b >= 2 a + 4 c")

    def test_there_and_back(self):
        source = random.Random(121)
        for at in range(200):
            scheme = more_schemes()[at % len(more_schemes())]
            for fact in drawn_facts(source, scheme, 6):
                text = fact_text(scheme, fact)
                self.assertEqual(fact_of(scheme, text), fact)
                for place in range(len(text)):
                    for changed in (text[:place] + text[place + 1:], text[:place] + " " + text[place:]):
                        if changed != text:
                            self.check_changed(scheme, changed)

    def check_changed(self, scheme, text):
        """A changed text has a fact of its own, or none."""
        try:
            fact = fact_of(scheme, text)
        except InvalidText as error:
            self.assertIs(error.value, text)
        else:
            self.assertEqual(fact_text(scheme, fact), text)

    def test_results_are_tuples(self):
        fact = fact_of(small_scheme(), "indel > swap")
        self.assertEqual([fact.__class__, fact[0].__class__, fact[1].__class__], [tuple, tuple, bool])
        self.assertEqual(fact_text(scheme=small_scheme(), fact=[[1, -1], True]), "indel > swap")
        self.assertEqual(fact_of(scheme=small_scheme(), text="indel > swap"), fact)

    def test_what_is_no_text(self):
        for text in any_values() + [
            "", ">", ">=", " > ", "indel", "indel > ", " > swap", "indel>swap", "indel  > swap", "indel > swap ",
            " indel > swap", "indel < swap", "swap <= indel", "indel = swap", "indel => swap", "1 indel > swap",
            "0 indel > swap", "01 indel > swap", "-1 indel > swap", "+1 indel > swap", "2indel > swap", "101 indel > 0",
            "1000 indel > 0", "indel + indel > 0", "swap + indel > 0", "indel > indel", "2 indel > indel", "0 > 0 > 0",
            "indel >= swap > 0", "0 + indel > 0", "indel + 0 > 0", "indel > 0 + swap", "edit > swap", "indel + > swap",
            "indel +swap > 0", "2 2 indel > 0", "indel 2 > 0", "2  indel > 0", "00 > 0", "1 > 0", "indel > swap\n",
            "indel >\nswap", "INDEL > swap", "9" * 900 + " indel > swap", "indel > -swap", "2 > 0", "indel * 2 > 0",
        ]:
            self.assertIs(raised(InvalidText, fact_of, small_scheme(), text).value, text)

    def test_errors(self):
        for value in any_values():
            if not isinstance(value, Scheme):
                self.assertIs(raised(NotScheme, fact_text, value, value).value, value)
                self.assertIs(raised(NotScheme, fact_of, value, value).value, value)
        for value in wrong_facts():
            self.assertIs(raised(InvalidFact, fact_text, small_scheme(), value).value, value)


class ChoiceTextTest(unittest.TestCase):
    def test_texts(self):
        for choice, text in [(("horse", "hose", "house", False), "horse: hose <= house"),
                             (("horse", "hose", "house", True), "horse: hose < house"),
                             (("", "", "", False), "-: - <= -"), (("a", "", "abcdef", True), "a: - < abcdef"),
                             (("", "a", "", False), "-: a <= -")]:
            self.assertEqual(choice_text(choice), text)
            self.assertEqual(choice_text(choice=list(choice)), text)
            self.assertEqual(choice_of(text), choice)
            self.assertEqual(choice_of(text=text).__class__, tuple)

    def test_there_and_back(self):
        source = random.Random(122)
        for choice in drawn_choices(source, "abcz", 16) + drawn_choices(source, "q", 16):
            self.assertEqual(choice_of(choice_text(choice)), choice)

    def test_what_is_no_text(self):
        for text in any_values() + [
            "", ":", "a: b < ", "a: b <", "a: < b", ": a < b", "a:  < b", "a: b c", "a: b > c", "a: b >= c", "a b < c",
            "a : b < c", "ab b < c", "abc a <= b", "a:b < c", "a: b<c", "a: b  < c", " a: b < c", "a: b < c ", "a: b < c\n", "A: b < c",
            "a: b < abcdefg", "a: b = c", "a: b << c", "a: b < c < d", "a:: b < c", "a: b <= c d", "--: a < b",
            "a-: b < c", "a: -- < b", "a: b < -a",
        ]:
            self.assertIs(raised(InvalidText, choice_of, text).value, text)

    def test_errors(self):
        for value in wrong_choices():
            self.assertIs(raised(InvalidChoice, choice_text, value).value, value)


class SchemeTextTest(unittest.TestCase):
    def test_texts(self):
        scheme = Scheme(["edit", "near", "turn"], add="edit", drop="edit", swap="edit",
                        groups=[("ea", "near"), ("zyx", "edit")], turn="turn")
        self.assertEqual(scheme_text(scheme).split("\n"), LINES)
        self.assertEqual(scheme_of("\n".join(LINES)), scheme)
        self.assertEqual(scheme_text(scheme=small_scheme()), "costs indel swap\nadd indel\ndrop indel\nswap swap")
        self.assertEqual(scheme_of(text="costs e\nadd e\ndrop e\nswap e\nturn e"),
                         Scheme(["e"], add="e", drop="e", swap="e", turn="e"))

    def test_there_and_back(self):
        for scheme in more_schemes() + [plain_scheme()]:
            found = scheme_of(scheme_text(scheme))
            self.assertEqual(found, scheme)
            self.assertEqual((found.costs, found.groups), (scheme.costs, scheme.groups))
            self.assertEqual(scheme_text(found), scheme_text(scheme))

    def test_names_that_are_words_of_lines(self):
        scheme = Scheme(["turn", "group", "costs", "add"], add="turn", drop="group", swap="costs",
                        groups=[("turn", "group"), ("abc", "add")], turn="add")
        self.assertEqual(scheme_of(scheme_text(scheme)), scheme)
        alone = Scheme(["turn"], add="turn", drop="turn", swap="turn", groups=[("ab", "turn")])
        self.assertEqual(scheme_of(scheme_text(alone)), alone)

    def test_letters_of_a_group_in_any_order(self):
        for letters in itertools.permutations("aem"):
            text = f"costs e\nadd e\ndrop e\nswap e\ngroup {''.join(letters)} e"
            self.assertEqual(scheme_of(text).groups, (("aem", "e"),))

    def test_no_string(self):
        for value in any_values():
            if not isinstance(value, str):
                self.assertIs(raised(InvalidText, scheme_of, value).value, value)
                if not isinstance(value, Scheme):
                    self.assertIs(raised(NotScheme, scheme_text, value).value, value)

    def check_line(self, lines, index):
        self.assertEqual(raised(InvalidLine, scheme_of, "\n".join(lines)).index, index, lines)

    def test_lines_that_are_missing(self):
        for many in range(1, 4):
            self.check_line(LINES[:many], many)
        self.check_line([""], 0)
        self.check_line([], 0)
        for index in range(4):
            self.check_line(LINES[:index] + LINES[index + 1:], index)

    def test_lines_that_do_not_have_their_form(self):
        for index, line in enumerate(LINES):
            words = line.split(" ")
            for wrong in ["", " ", line + " ", " " + line, line.replace(" ", "  "), words[0], line.upper(),
                          line + " b c d", "more " + line, line + "1", " ".join([*words[:-1], "abcdefghi"]),
                          " ".join([*words[:-1], "A"]), words[0] + "s " + " ".join(words[1:]), line + ":"]:
                self.check_line([*LINES[:index], wrong, *LINES[index + 1:]], index)
                self.check_line([*LINES[:index], wrong], index)
        for index in (1, 2, 3, 6):
            self.check_line([*LINES[:index], LINES[index] + " edit", *LINES[index + 1:]], index)

    def test_lines_in_their_order_and_once(self):
        for first, second in itertools.combinations(range(len(LINES)), 2):
            if (first, second) != (4, 5):
                lines = list(LINES)
                lines[first], lines[second] = lines[second], lines[first]
                self.check_line(lines, first if first < 4 else first + 1)
        for index in (0, 1, 2, 3, 6):
            self.check_line([*LINES[:index + 1], *LINES[index:]], index + 1)
        self.check_line([*LINES, ""], 7)
        self.check_line([*LINES, LINES[4]], 7)

    def test_names_of_costs(self):
        for text in ("costs", "costs ", "costs a b c d e", "costs a  b", "costs A", "cost a", "costs abcdefghi"):
            self.check_line([text, *LINES[1:]], 0)
        self.assertEqual(len(scheme_of("costs a b c d\nadd a\ndrop a\nswap a")), 4)

    def test_groups(self):
        for line in ("group ab", "group  near", "group a1 near", "group AB near", "group ab near near", "group ab 1",
                     "group - near"):
            self.check_line([*LINES[:4], line, LINES[6]], 4)
        for line, item in [("group a near", ("a", "near")), ("group aa near", ("aa", "near")),
                           ("group abca near", ("abca", "near"))]:
            self.assertEqual(raised(InvalidGroup, scheme_of, "\n".join([*LINES[:4], line])).value, item)
        again = "\n".join([*LINES[:5], "group ba edit"])
        self.assertEqual(raised(InvalidGroup, scheme_of, again).value, ("ba", "edit"))

    def test_what_the_scheme_raises(self):
        for index, cost in [(1, "far"), (2, "far"), (3, "far")]:
            lines = [*LINES[:index], LINES[index].replace("edit", "far"), *LINES[index + 1:]]
            self.assertEqual(raised(UnknownCost, scheme_of, "\n".join(lines)).label, cost)
        self.assertEqual(raised(UnknownCost, scheme_of, "\n".join([*LINES[:4], "group ab far"])).label, "far")
        self.assertEqual(raised(UnknownCost, scheme_of, "\n".join([*LINES[:4], "turn far"])).label, "far")
        self.assertEqual(raised(Duplicate, scheme_of, "\n".join(["costs a b a", *LINES[1:]])).label, "a")
        # A line without its form comes before what the scheme raises.
        self.check_line(["costs a b a", *LINES[1:4], "more"], 4)

    def test_the_interface_is_defined_here(self):
        for name in "fact_text fact_of choice_text choice_of scheme_text scheme_of".split():
            self.assertEqual(getattr(module, name).__module__, "seenchoices.texts")


if __name__ == "__main__":
    unittest.main()
