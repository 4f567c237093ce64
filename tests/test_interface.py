"""The interface: each name in its file, its arguments by position and by name, and which of them have defaults."""

import importlib
import inspect
import unittest

FUNCTIONS = {
    "words": ["is_integer(value, low, high)", "is_word(value)", "is_name(value)", "is_letter(value)", "scaled(numbers)",
              "price(counts, numbers)"],
    "schemes": ["costs_of(scheme, numbers)", "numbers_of(scheme, costs)", "renamed(scheme, cost, new)",
                "merged(scheme, one, other)", "without_turns(scheme)", "without_groups(scheme)"],
    "rows": ["is_row(scheme, word, value)", "written(scheme, word, row)", "counts_of(scheme, word, row)",
             "turned_back(scheme, word, row)", "mirrored(scheme, word, row)", "rows_between(scheme, one, other)",
             "row_count(scheme, one, other)"],
    "counts": ["all_counts(scheme, one, other)", "minimal_counts(scheme, one, other)",
               "row_with(scheme, one, other, counts)", "rows_with(scheme, one, other, counts)",
               "free_counts(scheme, one, other, kind)"],
    "distances": ["distance(scheme, one, other, costs)", "cheapest_row(scheme, one, other, costs)",
                  "cheapest_counts(scheme, one, other, costs)", "cheapest_many(scheme, one, other, costs)",
                  "nearest(scheme, target, words, costs)", "order_at(scheme, target, words, costs)"],
    "systems": ["keeps(numbers, row)", "settle(many, rows)", "shows_sum(many, rows, amounts)"],
    "choices": ["is_fact(scheme, value)", "is_choice(value)", "fact_holds(scheme, fact, costs)",
                "choice_holds(scheme, choice, costs)", "broken(scheme, facts, choices, costs)",
                "explained(scheme, facts, choices)", "shows_tree(scheme, facts, choices, rows)",
                "conflict(scheme, facts, choices)"],
    "sure": ["relations(scheme, target, one, other, *, facts=(), choices=())",
             "why(scheme, target, one, relation, other, *, facts=(), choices=())",
             "shows_why(scheme, target, one, relation, other, rows, *, facts=(), choices=())",
             "never_farther(scheme, target, one, other, *, facts=(), choices=())",
             "follows(scheme, fact, *, facts=(), choices=())", "bounds(scheme, one, other, *, facts=(), choices=())"],
    "orders": ["is_order(words, value)", "orders(words, target, *, facts=(), choices=())",
               "order_list(words, target, *, facts=(), choices=())",
               "why_order(words, target, order, *, facts=(), choices=())",
               "ranks(words, target, word, *, facts=(), choices=())",
               "sure_order(words, target, *, facts=(), choices=())"],
    "kinds": ["parting(one, other, words, *, facts=())", "alike(one, other, words, *, facts=())",
              "needing(scheme, words, kind, *, facts=())", "needless_kinds(scheme, words, *, facts=())",
              "paying(scheme, words, cost, *, facts=())"],
    "texts": ["fact_text(scheme, fact)", "fact_of(scheme, text)", "choice_text(choice)", "choice_of(text)",
              "scheme_text(scheme)", "scheme_of(text)"],
}
CLASSES = {
    "schemes.Scheme": ["__init__(self, costs, *, add, drop, swap, groups=(), turn=None)", "__len__(self)",
                       "__contains__(self, value)", "__eq__(self, other)", "swap_cost(self, one, other)",
                       "step_cost(self, step, letter=None)"],
    "wordlists.WordList": ["__init__(self, scheme, words)", "__len__(self)", "__contains__(self, value)",
                           "__eq__(self, other)", "scheme(self)", "words(self)",
                           "can_be_nearest(self, target, *, facts=(), choices=())",
                           "surely_nearest(self, target, *, facts=(), choices=())",
                           "why_nearest(self, target, word, *, facts=(), choices=())",
                           "nearest_sets(self, target, *, facts=(), choices=())",
                           "best_word(self, targets, *, facts=(), choices=())"],
    "session.Session": ["__init__(self, scheme)", "scheme(self)", "facts(self)", "choices(self)", "words(self)",
                        "done(self)", "__len__(self)", "say(self, line)", "say_all(self, lines)"],
}
PROPERTIES = ["costs", "cost_to_add", "cost_to_drop", "cost_to_swap", "groups", "cost_to_turn"]
GENERATORS = ["rows.rows_between", "orders.orders"]


def module_of(name):
    return importlib.import_module("seenchoices." + name)


def line_of(call):
    return f"{call.__name__}{inspect.signature(call)}"


class InterfaceTest(unittest.TestCase):
    def test_functions(self):
        for name, lines in FUNCTIONS.items():
            for line in lines:
                call = getattr(module_of(name), line.partition("(")[0])
                self.assertEqual(line_of(call), line)
                self.assertEqual(call.__module__, "seenchoices." + name)
                self.assertEqual(inspect.isgeneratorfunction(call), f"{name}.{call.__name__}" in GENERATORS)

    def test_classes(self):
        for name, lines in CLASSES.items():
            file, _, label = name.partition(".")
            found = getattr(module_of(file), label)
            self.assertEqual((found.__module__, found.__bases__), ("seenchoices." + file, (object,)))
            for line in lines:
                self.assertEqual(line_of(vars(found)[line.partition("(")[0]]), line)

    def test_properties(self):
        scheme = module_of("schemes").Scheme
        for name in PROPERTIES:
            self.assertIsInstance(vars(scheme)[name], property)


if __name__ == "__main__":
    unittest.main()
