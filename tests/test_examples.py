"""The examples of the document, as they stand there."""

import doctest
import unittest

from seenchoices import (
    choices, counts, distances, kinds, orders, rows, schemes, session, sure, systems, texts, wordlists, words,
)

MODULES = [words, schemes, rows, counts, distances, systems, choices, sure, wordlists, orders, kinds, texts, session]

EXAMPLES = r"""
[13]

    >>> [is_word(""), is_word("sevens"), is_word("Seven"), is_name(""), is_letter("z"), is_integer(True, 0, 1)]
    [True, True, False, False, True, False]

[14]

    >>> [scaled((4, -6, 0)), scaled((0, 0)), price((2, 0, 1), (3, 5, -4))]
    [(2, -3, 0), (0, 0), 2]

[21]

    >>> scheme = Scheme(["edit", "near", "turn"], add="edit", drop="edit", swap="edit", groups=[("ae", "near")], turn="turn")

[23]

    >>> [scheme.swap_cost("a", "e"), scheme.swap_cost("a", "o"), scheme.step_cost(("turn",)), scheme.step_cost(("swap", "e"), "a")]
    ['near', 'edit', 'turn', 'near']

[24]

    >>> numbers_of(scheme, {"near": 1, "turn": 5, "edit": 3})
    (3, 1, 5)

[32]

    >>> scheme = Scheme(["edit", "near", "turn"], add="edit", drop="edit", swap="edit", groups=[("ae", "near")], turn="turn")
    >>> row = [("keep",), ("swap", "e"), ("turn",), ("add", "s")]
    >>> [written(scheme, "halp", row), counts_of(scheme, "halp", row), is_row(scheme, "halp", row[1:]), is_row(scheme, "hall", row)]
    ['hepls', (1, 1, 1), False, False]

[34]

    >>> [sorted(rows_between(scheme, "ab", "b"))[0], row_count(scheme, "ab", "ba"), row_count(scheme, "", "abc")]
    [[('add', 'b'), ('drop',), ('drop',)], 14, 1]

[41]

    >>> scheme = Scheme(["indel", "swap"], add="indel", drop="indel", swap="swap")
    >>> [minimal_counts(scheme, "abc", "ca"), minimal_counts(scheme, "abc", "abc"), len(all_counts(scheme, "abc", "ca"))]
    [[(1, 2), (3, 0)], [(0, 0)], 4]

[43]

    >>> [free_counts(scheme, "abc", "ca", "swap"), free_counts(scheme, "ab", "cd", "near")]
    [[(3, 0)], [(0, 2), (2, 1), (4, 0)]]

[51]

    >>> scheme = Scheme(["indel", "swap"], add="indel", drop="indel", swap="swap")
    >>> [distance(scheme, "abc", "ca", {"indel": 2, "swap": 1}), distance(scheme, "abc", "ca", {"indel": 2, "swap": 9})]
    [4, 6]
    >>> [cheapest_counts(scheme, "abc", "ca", {"indel": 1, "swap": 1}), cheapest_many(scheme, "a", "b", {"indel": 1, "swap": 2})]
    [[(1, 2), (3, 0)], 3]

[52]

    >>> [nearest(scheme, "ca", ["abc", "cab", "a"], {"indel": 2, "swap": 1}), order_at(scheme, "ca", ["abc", "cab", "a"], {"indel": 2, "swap": 1})]
    [['cab', 'a'], [['cab', 'a'], ['abc']]]

[63]

    >>> rows = [((1, -2), False), ((-1, 1), True)]
    >>> [settle(2, rows)[0], shows_sum(2, rows, (1, 1)), shows_sum(2, rows, (1, 0)), keeps((3, 1), rows[0]), settle(2, rows[:1])[0]]
    ['sum', True, False, True, 'costs']

[72]

    >>> scheme = Scheme(["edit", "swap"], add="edit", drop="edit", swap="swap")
    >>> choice = ("horse", "hose", "house", False)
    >>> [choice_holds(scheme, choice, {"edit": 1, "swap": 1}), choice_holds(scheme, choice, {"edit": 3, "swap": 1}), fact_holds(scheme, ((2, -1), True), {"edit": 1, "swap": 2})]
    [True, False, False]

[74]

    >>> facts = [((1, -2), False)]
    >>> [explained(scheme, facts, [choice])[0], conflict(scheme, facts, [choice, ("a", "", "b", True)]), explained(scheme, [], [choice])[0]]
    ['tree', ([0], [1]), 'costs']

[81]

    >>> scheme = Scheme(["edit", "swap"], add="edit", drop="edit", swap="swap")
    >>> [relations(scheme, "horse", "hose", "house"), relations(scheme, "horse", "hose", "house", facts=[((-1, 1), True)]), relations(scheme, "ab", "abc", "ab")]
    [['nearer', 'same', 'farther'], ['nearer'], ['farther']]

[83]

    >>> [never_farther(scheme, "horse", "hose", "house", facts=[((-1, 1), False)]), follows(scheme, ((-2, 3), True), choices=[("horse", "hose", "house", False)])]
    [True, True]
    >>> bounds(scheme, "swap", "edit", facts=[((-3, 1), False), ((7, -2), True)])
    (3, 4)

[92]

    >>> scheme = Scheme(["indel", "swap"], add="indel", drop="indel", swap="swap")
    >>> words = WordList(scheme, ["hose", "house", "worse"])
    >>> [words.can_be_nearest("horse"), words.can_be_nearest("horse", facts=[((1, -1), True)]), words.surely_nearest("horse", facts=[((1, -1), True)])]
    [['hose', 'house', 'worse'], ['house', 'worse'], ['house', 'worse']]

[93]

    >>> [found for found, costs in words.nearest_sets("horse")]
    [['hose'], ['house', 'worse'], ['hose', 'house', 'worse']]

[102]

    >>> scheme = Scheme(["indel", "swap"], add="indel", drop="indel", swap="swap")
    >>> words = WordList(scheme, ["hose", "house"])
    >>> order_list(words, "horse")
    [[['hose', 'house']], [['hose'], ['house']], [['house'], ['hose']]]

[104]

    >>> [ranks(words, "horse", "hose"), ranks(words, "horse", "hose", facts=[((1, -1), True)]), sure_order(words, "horse", facts=[((1, -1), True)])]
    [[0, 1], [1], [('hose', 'farther', 'house')]]

[111]

    >>> scheme = Scheme(["indel", "swap"], add="indel", drop="indel", swap="swap")
    >>> other = Scheme(["indel", "swap"], add="indel", drop="indel", swap="swap", turn="indel")
    >>> [alike(scheme, other, ["ab", "a"]), alike(scheme, other, ["ab", "ba"]), alike(scheme, other, ["ab", "ba"], facts=[((1, -2), False)])]
    [True, False, True]

[112]

    >>> [needless_kinds(scheme, ["ab", "ba"]), needless_kinds(scheme, ["ab", "cd"], facts=[((-2, 1), False)])]
    [['near', 'turn'], ['swap', 'near', 'far', 'turn']]

[123]

    >>> scheme = scheme_of("costs edit near turn\nadd edit\ndrop edit\nswap edit\ngroup ea near\nturn turn")
    >>> [scheme_text(scheme).split("\n")[4], fact_text(scheme, ((2, -1, 0), True)), fact_of(scheme, "0 >= edit + 3 turn"), choice_text(("", "a", "", False))]
    ['group ae near', '2 edit > near', ((-1, 0, -3), False), '-: a <= -']

[134]

    >>> session = Session(Scheme(["edit", "swap"], add="edit", drop="edit", swap="swap"))
    >>> [session.say("relation horse hose house"), session.say("choice horse: hose < house"), session.say("relation horse hose house"), session.say("bounds swap edit")]
    [['nearer', 'same', 'farther'], [], ['nearer'], ['1 -']]
    >>> session.say("fact edit >= swap")
    Traceback (most recent call last):
    seenchoices.errors.NotPossible: facts and choices cannot hold together
"""


class ExamplesTest(unittest.TestCase):
    def test_examples(self):
        names = {}
        for module in MODULES:
            names.update(vars(module))
        test = doctest.DocTestParser().get_doctest(EXAMPLES, names, "the document", None, 0)
        report = []
        results = doctest.DocTestRunner(verbose=False).run(test, out=report.append)
        self.assertEqual((results.failed, results.attempted), (0, 44), "".join(report))


if __name__ == "__main__":
    unittest.main()
