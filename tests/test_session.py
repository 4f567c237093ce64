"""Promises [131] to [135]: sessions, their commands, undo and redo."""

import random
import unittest

from evidence import all_true, small_scheme
from sample_values import any_values, plain_scheme, raised
from seenchoices import session as module
from seenchoices.choices import conflict
from seenchoices.errors import (
    Duplicate, InvalidCommand, InvalidPart, NothingToUndo, NotPossible, NotScheme, StateError, TooMany, UnknownCost,
    UnknownIndex, UnknownWord,
)
from seenchoices.orders import order_list
from seenchoices.schemes import Scheme, merged, renamed
from seenchoices.session import Session
from seenchoices.sure import bounds, relations
from seenchoices.texts import choice_of, fact_of
from seenchoices.wordlists import WordList

CHANGING = ["fact indel > swap", "choice a: a < b", "word ab", "word -", "leave ab", "rename swap near",
            "forget fact 0", "forget choice 0", "merge indel near"]


def small_session(*lines):
    session = Session(small_scheme())
    session.say_all(list(lines))
    return session


def shown(session):
    """All that a session tells of itself."""
    return (session.scheme(), session.facts(), session.choices(), session.words(), session.done(), len(session))


class SessionTest(unittest.TestCase):
    def test_without_members(self):
        scheme = plain_scheme()
        session = Session(scheme=scheme)
        self.assertIs(session.scheme(), scheme)
        self.assertEqual(shown(session), (scheme, [], [], [], [], 0))

    def test_members(self):
        session = small_session("fact indel > 2 swap", "choice -: a <= b", "word ab", "word -", "fact swap > 0")
        self.assertEqual(shown(session), (
            small_scheme(), [((1, -2), True), ((0, 1), True)], [("", "a", "b", False)], ["ab", ""],
            ["fact indel > 2 swap", "choice -: a <= b", "word ab", "word -", "fact swap > 0"], 5))

    def test_lists_are_new(self):
        session = small_session("fact indel > swap", "choice a: a < b", "word ab")
        before = shown(session)
        for call in (session.facts, session.choices, session.words, session.done):
            call().append("more")
        session.say("show").append("more")
        session.say("changes").append("more")
        session.say("words").clear()
        self.assertEqual(shown(session), before)
        self.assertEqual(session.say("changes"), before[4])

    def test_sessions_equal_only_themselves(self):
        session = small_session()
        self.assertTrue(session == session)
        self.assertFalse(session == small_session())

    def test_no_scheme(self):
        for value in any_values():
            if not isinstance(value, Scheme):
                self.assertIs(raised(NotScheme, Session, value).value, value)

    def test_methods_stand_in_the_class_itself(self):
        for name in "__len__ scheme facts choices words done say say_all".split():
            self.assertIn(name, vars(Session))
        self.assertEqual(Session.__module__, module.__name__)


class FormsTest(unittest.TestCase):
    def test_lines_that_are_no_commands(self):
        session = small_session("word ab", "fact indel > swap", "choice a: a < b")
        before = shown(session)
        for line in any_values() + [
            "", " ", "help", "Show", "show ", " show", "show all", "facts 1", "words ab", "changes -", "costs indel",
            "undo 1", "undo ", "redo x", "Undo", "fact", "fact ", "fact indel", "fact indel > edit",
            "fact 1 indel > 0", "fact  indel > swap", "fact indel > swap ", "fact indel > indel", "choice", "choice ",
            "choice a: b", "choice a b < c", "choice  a: a < b", "choice a: a < B", "forget", "forget fact",
            "forget fact ", "forget fact 00", "forget fact 01", "forget fact 100", "forget fact -1", "forget fact +1",
            "forget fact x", "forget fact 1 2", "forget  fact 0", "forget facts 0", "forget word 0", "forget choice",
            "forget choice 1.", "word", "word ", "word A", "word abcdefg", "word a b", "word --", "leave", "leave ",
            "leave ab ab", "leave AB", "rename indel", "rename indel ", "rename indel New", "rename indel abcdefghi",
            "rename indel - ", "rename - x", "rename a b c", "merge indel", "merge indel swap x", "merge indel Swap",
            "relation a b", "relation a b c d", "relation a b ", "relation a b C", "nearest", "nearest a b",
            "nearest A", "orders", "orders a b", "orders abcdefg", "bounds indel", "bounds indel swap x",
            "bounds indel -", "bounds indel 1", "fact\nindel > swap", "show\n", "forget fact 0\n", "word a\n",
            "forget fact", "nearest  a", "say show",
        ]:
            self.assertIs(raised(InvalidCommand, session.say, line).value, line)
            self.assertIs(raised(InvalidCommand, session.say_all, ["show", line]).value, line)
            self.assertEqual(shown(session), before)

    def test_lines_by_name(self):
        session = small_session()
        self.assertEqual(session.say(line="word a"), [])
        self.assertEqual(session.say_all(lines=("words", "nearest b")), [["a"], ["a"]])


class ChangesTest(unittest.TestCase):
    def test_facts(self):
        session = small_session()
        lines = ["fact indel > swap", "fact 3 swap >= indel", "fact 0 >= 0", "fact indel > swap"]
        for many, line in enumerate(lines, start=1):
            self.assertEqual(session.say(line), [])
            self.assertEqual(len(session), many)
        self.assertEqual(session.facts(), [fact_of(small_scheme(), line[5:]) for line in lines])
        before = shown(session)
        for line in ("fact indel > swap", "fact 0 > 0"):
            self.assertEqual(raised(TooMany, session.say, line).most, 4)
        self.assertEqual(shown(session), before)

    def test_the_example_of_the_document(self):
        session = Session(Scheme(["edit", "swap"], add="edit", drop="edit", swap="swap"))
        session.say("choice horse: hose < house")
        self.assertEqual(raised(NotPossible, session.say, "fact edit >= swap").parts, ([0], [0]))

    def test_facts_that_are_not_possible(self):
        session = small_session("fact indel > swap", "choice horse: house < hose")
        before = shown(session)
        for text in ("swap >= indel", "0 > 0", "0 >= indel"):
            error = raised(NotPossible, session.say, "fact " + text)
            facts = [((1, -1), True), fact_of(small_scheme(), text)]
            self.assertEqual(error.parts, conflict(small_scheme(), facts, [("horse", "house", "hose", True)]))
            self.assertEqual([error.parts.__class__, error.parts[0].__class__], [tuple, list])
            self.assertEqual(shown(session), before)

    def test_choices(self):
        session = small_session()
        lines = ["choice horse: house < hose", "choice -: - <= a", "choice horse: house < hose"]
        for line in lines:
            self.assertEqual(session.say(line), [])
        self.assertEqual(session.choices(), [choice_of(line[7:]) for line in lines])
        before = shown(session)
        for line in ("choice horse: house < hose", "choice horse: hose < house"):
            self.assertEqual(raised(TooMany, session.say, line).most, 3)
        session.say("forget choice 2")
        self.assertEqual(raised(NotPossible, session.say, "choice horse: hose <= house").parts, ([], [0, 2]))
        self.assertEqual(raised(NotPossible, session.say, "choice a: b < b").parts, ([], [2]))
        session.say("undo")
        self.assertEqual(shown(session), before)

    def test_forgetting(self):
        session = small_session("fact indel > swap", "fact 0 >= 0", "fact swap > 0", "choice a: a < b",
                                "choice b: b < a")
        for line, index in [("forget fact 3", 3), ("forget choice 2", 2), ("forget fact 99", 99)]:
            self.assertEqual(raised(UnknownIndex, session.say, line).index, index)
        self.assertEqual(session.say("forget fact 1"), [])
        self.assertEqual(session.say("facts"), ["indel > swap", "swap > 0"])
        self.assertEqual(session.say("forget choice 0"), [])
        self.assertEqual(session.say("choices"), ["b: b < a"])
        self.assertEqual(len(session), 7)
        session.say_all(["forget fact 0", "forget fact 0", "forget choice 0"])
        self.assertEqual((session.facts(), session.choices()), ([], []))
        self.assertEqual(raised(UnknownIndex, session.say, "forget choice 0").index, 0)

    def test_words(self):
        session = small_session("word b", "word -", "word ab", "word a", "word aaaaaa")
        self.assertEqual(session.words(), ["b", "", "ab", "a", "aaaaaa"])
        self.assertEqual(session.say("words"), ["b", "-", "ab", "a", "aaaaaa"])
        self.assertEqual(raised(Duplicate, session.say, "word -").label, "")
        self.assertEqual(raised(Duplicate, session.say, "word ab").label, "ab")
        self.assertEqual(raised(TooMany, session.say, "word c").most, 5)
        self.assertEqual(session.say("leave -"), [])
        self.assertEqual(session.say("leave ab"), [])
        self.assertEqual(session.words(), ["b", "a", "aaaaaa"])
        self.assertEqual(raised(UnknownWord, session.say, "leave ab").label, "ab")
        self.assertEqual(raised(UnknownWord, session.say, "leave -").label, "")
        session.say("word -")
        self.assertEqual(session.words(), ["b", "a", "aaaaaa", ""])

    def test_renaming(self):
        session = small_session("fact indel > swap")
        self.assertEqual(session.say("rename swap near"), [])
        self.assertEqual(session.scheme(), renamed(small_scheme(), "swap", "near"))
        self.assertEqual(session.say("facts"), ["indel > near"])
        self.assertEqual(session.done(), ["fact indel > swap", "rename swap near"])
        self.assertEqual(raised(UnknownCost, session.say, "rename swap far").label, "swap")
        self.assertEqual(raised(Duplicate, session.say, "rename near indel").label, "indel")
        self.assertIs(raised(InvalidCommand, session.say, "fact indel > swap").value, "fact indel > swap")
        session.say("rename near near")
        self.assertEqual(len(session), 3)

    def test_merging(self):
        scheme = Scheme(["a", "b", "c"], add="a", drop="b", swap="c", turn="b")
        session = Session(scheme)
        session.say_all(["fact a + 2 b > 3 c", "fact 3 c >= 2 b"])
        self.assertEqual(session.say("merge c b"), [])
        self.assertEqual(session.scheme(), merged(scheme, "c", "b"))
        self.assertEqual(session.facts(), [((1, -1), True), ((0, 1), False)])
        self.assertEqual(session.say("changes")[-1], "merge c b")

    def test_merged_facts(self):
        for one, other, numbers in [("a", "b", (3, -3)), ("b", "a", (3, -3)), ("c", "b", (1, -1)), ("b", "c", (1, -1)),
                                    ("a", "c", (-2, 2)), ("c", "a", (2, -2))]:
            scheme = Scheme(["a", "b", "c"], add="a", drop="b", swap="c", turn="b")
            session = Session(scheme)
            session.say("fact a + 2 b >= 3 c")
            session.say(f"merge {one} {other}")
            self.assertEqual(session.scheme(), merged(scheme, one, other))
            self.assertEqual(session.facts(), [(numbers, False)])

    def test_merging_what_cannot_be_merged(self):
        session = Session(Scheme(["a", "b", "c"], add="a", drop="b", swap="c"))
        session.say_all(["fact 60 a + 40 c >= 40 b", "fact 100 b >= 100 c", "fact b > c"])
        before = shown(session)
        self.assertEqual(raised(UnknownCost, session.say, "merge a d").label, "d")
        self.assertEqual(raised(UnknownCost, session.say, "merge d e").label, "d")
        self.assertEqual(raised(Duplicate, session.say, "merge a a").label, "a")
        self.assertEqual(raised(NotPossible, session.say, "merge b c").parts, ([2], []))
        # The sum that is too great comes before what is not possible.
        session.say("fact 50 b + 51 c > 0")
        self.assertEqual(raised(TooMany, session.say, "merge b c").most, 100)
        session.say("undo")
        self.assertEqual(session.say("merge a c"), [])
        self.assertEqual(session.facts()[0], ((100, -40), False))
        session.say("undo")
        self.assertEqual(shown(session), before)

    def test_choices_that_cannot_hold_behind_merging(self):
        session = Session(Scheme(["a", "b"], add="a", drop="b", swap="b"))
        session.say_all(["fact a > 0", "choice a: aa < -"])
        self.assertEqual(raised(NotPossible, session.say, "merge a b").parts, ([], [0]))
        self.assertEqual(session.say("facts"), ["a > 0"])

    def test_too_small_sums(self):
        session = Session(Scheme(["a", "b", "c"], add="a", drop="b", swap="c"))
        session.say("fact 100 c >= 50 a + 51 b")
        self.assertEqual(raised(TooMany, session.say, "merge a b").most, 100)
        session.say("merge a c")
        self.assertEqual(session.facts(), [((50, -51), False)])


class QuestionsTest(unittest.TestCase):
    def test_what_is_there(self):
        session = Session(plain_scheme())
        self.assertEqual(session.say("show"), ["costs edit near turn", "add edit", "drop edit", "swap edit",
                                               "group ae near", "turn turn"])
        for line in ("facts", "choices", "words", "changes", "nearest ab", "orders -"):
            self.assertEqual(session.say(line), [])

    def test_against_the_functions(self):
        source = random.Random(134)
        scheme = Scheme(["e", "s", "t"], add="e", drop="e", swap="s", turn="t")
        for _ in range(25):
            session = Session(scheme)
            for line in ["fact e >= s", "fact 3 t > s", "choice ab: ba <= a", "choice ba: abc <= -", "word ab",
                         "word ba", "word -"]:
                if source.random() < 0.5:
                    session.say(line)
            known = {"facts": session.facts(), "choices": session.choices()}
            self.assertEqual(session.say("relation ab - abc"), relations(scheme, "ab", "", "abc", **known))
            self.assertEqual(session.say("bounds s e"), [" ".join("-" if bound is None else str(bound) for bound in
                                                                 bounds(scheme, "s", "e", **known))])
            costs = dict(part.split("=") for part in session.say("costs")[0].split(" "))
            self.assertEqual(list(costs), ["e", "s", "t"])
            self.assertTrue(all_true(scheme, session.facts(), session.choices(),
                                     {name: int(number) for name, number in costs.items()}))
            if session.words():
                words = WordList(scheme, session.words())
                self.assertEqual(session.say("nearest ab"),
                                 [word if word else "-" for word in words.can_be_nearest("ab", **known)])
                texts = [" < ".join(" = ".join(word if word else "-" for word in group) for group in order)
                         for order in order_list(words, "ab", **known)]
                self.assertEqual(session.say("orders ab"), texts)

    def test_orders_and_nearest_words(self):
        session = small_session("word hose", "word house", "word -")
        self.assertEqual(session.say("nearest horse"), ["hose", "house"])
        self.assertEqual(session.say("orders horse"), ["hose = house < -", "hose < house < -", "house < hose < -"])
        self.assertEqual(session.say("nearest -"), ["-"])

    def test_costs(self):
        session = Session(Scheme(["b", "a"], add="a", drop="a", swap="b"))
        session.say_all(["fact b >= 3 a", "fact 3 a >= b"])
        self.assertEqual(session.say("costs"), ["b=3 a=1"])

    def test_bounds(self):
        session = small_session()
        self.assertEqual(session.say("bounds indel swap"), ["- -"])
        session.say("fact 7 indel >= 2 swap")
        self.assertEqual(session.say("bounds swap indel"), ["- 4"])
        self.assertEqual(session.say("bounds indel indel"), ["1 1"])
        self.assertEqual(raised(UnknownCost, session.say, "bounds edit near").label, "edit")
        self.assertEqual(raised(UnknownCost, session.say, "bounds swap near").label, "near")

    def test_questions_change_nothing(self):
        session = small_session("fact indel > swap", "choice a: a < b", "word ab")
        session.say("undo")
        before = shown(session)
        for line in ("show", "facts", "choices", "words", "changes", "relation a b c", "nearest a", "orders a", "costs",
                     "bounds swap indel"):
            first = session.say(line)
            self.assertEqual(first.__class__, list)
            self.assertEqual(session.say(line), first)
            self.assertEqual(shown(session), before)
        session.say("redo")
        self.assertEqual(session.words(), ["ab"])


class UndoTest(unittest.TestCase):
    def test_back_and_forth(self):
        session = small_session()
        stages = [shown(session)]
        for line in CHANGING:
            self.assertEqual(session.say(line), [])
            stages.append(shown(session))
        self.assertEqual(session.done(), CHANGING)
        for stage in reversed(stages[:-1]):
            self.assertEqual(session.say("undo"), [])
            self.assertEqual(shown(session), stage)
        raised(NothingToUndo, session.say, "undo")
        for stage in stages[1:]:
            self.assertEqual(session.say("redo"), [])
            self.assertEqual(shown(session), stage)
        raised(NothingToUndo, session.say, "redo")

    def test_nothing_at_first(self):
        for line in ("undo", "redo"):
            self.assertEqual(vars(raised(NothingToUndo, small_session().say, line)), {})

    def test_a_new_change_makes_redo_impossible_until_the_next_undo(self):
        session = small_session("word a")
        session.say_all(["word b"])
        session.say("undo")
        session.say("word c")
        raised(NothingToUndo, session.say, "redo")
        session.say("undo")
        self.assertEqual(session.say("redo"), [])
        self.assertEqual(session.words(), ["a", "c"])

    def test_errors_and_questions_keep_what_can_be_done_again(self):
        session = small_session("word a")
        session.say("undo")
        raised(UnknownWord, session.say, "leave b")
        raised(InvalidCommand, session.say, "more")
        session.say("show")
        session.say_all(["show", "words"])
        session.say_all([])
        raised(UnknownWord, session.say_all, ["word b", "leave c"])
        session.say("redo")
        self.assertEqual(session.words(), ["a"])

    def test_a_change_after_which_everything_is_as_it_was(self):
        session = small_session()
        session.say("rename swap swap")
        self.assertEqual((len(session), session.done()), (1, ["rename swap swap"]))
        session.say("undo")
        self.assertEqual(len(session), 0)
        raised(NothingToUndo, session.say, "undo")

    def test_drawn_commands(self):
        source = random.Random(135)
        lines = CHANGING + ["undo", "redo", "undo", "redo", "show", "word b", "leave b"]
        for _ in range(40):
            session, past, future = small_session(), [], []
            for _ in range(25):
                line, before = source.choice(lines), shown(session)
                try:
                    session.say(line)
                except (InvalidCommand, UnknownWord, Duplicate, UnknownIndex, UnknownCost, StateError):
                    self.assertEqual(shown(session), before)
                    self.assertFalse((line == "undo" and past) or (line == "redo" and future))
                    continue
                if line == "undo":
                    future.append(before)
                    self.assertEqual(shown(session), past.pop())
                elif line == "redo":
                    past.append(before)
                    self.assertEqual(shown(session), future.pop())
                elif line != "show":
                    past.append(before)
                    future.clear()
                    self.assertEqual(session.done(), before[4] + [line])


class SayAllTest(unittest.TestCase):
    def test_results(self):
        session = small_session()
        self.assertEqual(session.say_all(["word a", "words", "changes", "fact indel > swap", "changes", "show"]), [
            [], ["a"], ["word a"], [], ["word a", "fact indel > swap"],
            ["costs indel swap", "add indel", "drop indel", "swap swap"]])
        self.assertEqual(session.done(), ["word a", "fact indel > swap"])
        self.assertEqual(session.say_all([]), [])

    def test_one_change(self):
        session = small_session("word a")
        session.say_all(("word b", "show", "word c", "leave a"))
        self.assertEqual((session.words(), len(session)), (["b", "c"], 4))
        session.say("undo")
        self.assertEqual((session.words(), len(session)), (["a"], 1))
        session.say("redo")
        self.assertEqual((session.words(), session.done()), (["b", "c"], ["word a", "word b", "word c", "leave a"]))
        session.say("undo")
        session.say("undo")
        raised(NothingToUndo, session.say, "undo")

    def test_all_or_none(self):
        session = small_session("word a")
        session.say("word b")
        session.say("undo")
        before = shown(session)
        for wrong, line in [(UnknownWord, "leave z"), (InvalidCommand, "more"), (InvalidCommand, 7),
                            (NotPossible, "fact 0 > 0"), (Duplicate, "word c"), (UnknownIndex, "forget fact 5")]:
            raised(wrong, session.say_all, ["word c", "fact indel > swap", line, "words"])
            self.assertEqual(shown(session), before)
        session.say("redo")
        self.assertEqual(session.words(), ["a", "b"])

    def test_undo_and_redo_are_no_commands_here(self):
        session = small_session("word a")
        before = shown(session)
        for line in ("undo", "redo"):
            again = "".join(list(line))
            for lines in ([again], ["word b", again, "redo"], ["leave z", again], [7, again], (again, "more")):
                self.assertIs(raised(InvalidCommand, session.say_all, lines).value, again)
                self.assertEqual(shown(session), before)

    def test_lists_of_lines(self):
        session = small_session()
        for value in [None, True, 5, "show", "", {}, {0: "show"}, small_scheme(), session]:
            self.assertIs(raised(InvalidPart, session.say_all, value).value, value)
        for value in any_values():
            self.assertIs(raised(InvalidCommand, session.say_all, ["word a", value]).value, value)
        self.assertEqual(len(session), 0)
        lines = ["word a", "words"]
        session.say_all(lines)
        self.assertEqual(lines, ["word a", "words"])


if __name__ == "__main__":
    unittest.main()
