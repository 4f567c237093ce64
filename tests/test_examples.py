"""The examples of the document, as they stand there."""

import doctest
import unittest

from seenchoices import schemes, words

MODULES = [words, schemes]

EXAMPLES = r"""
[13]

    >>> [is_word(""), is_word("sevens"), is_word("Seven"), is_name(""), is_letter("z"), is_integer(True, 0, 1)]
    [True, True, False, False, True, False]

[14]

    >>> [scaled((4, -6, 0)), scaled((0, 0)), price((2, 0, 1), (3, 5, -4))]
    [(2, -3, 0), (0, 0), 2]

[21]

    >>> scheme = Scheme(["edit", "near", "turn"], add="edit", drop="edit", swap="edit", groups=[("ae", "near")], turn="turn")

[23]

    >>> [scheme.swap_cost("a", "e"), scheme.swap_cost("a", "o"), scheme.step_cost(("turn",)), scheme.step_cost(("swap", "e"), "a")]
    ['near', 'edit', 'turn', 'near']

[24]

    >>> numbers_of(scheme, {"near": 1, "turn": 5, "edit": 3})
    (3, 1, 5)
"""


class ExamplesTest(unittest.TestCase):
    def test_examples(self):
        names = {}
        for module in MODULES:
            names.update(vars(module))
        test = doctest.DocTestParser().get_doctest(EXAMPLES, names, "the document", None, 0)
        report = []
        results = doctest.DocTestRunner(verbose=False).run(test, out=report.append)
        self.assertEqual((results.failed, results.attempted), (0, 5), "".join(report))


if __name__ == "__main__":
    unittest.main()
