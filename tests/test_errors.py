"""Promises [10] and [12]: the exception classes, their bases and their fields."""

import inspect
import unittest

from sample_values import any_values, raised
from seenchoices import errors

BASES = {"ChoiceError": ValueError, "MissingError": KeyError, "StateError": LookupError}

FIELDS = {
    "ChoiceError": {
        "InvalidPart": "value", "InvalidInteger": "value", "InvalidWord": "value", "InvalidName": "value",
        "InvalidLetter": "value", "InvalidGroup": "value", "Duplicate": "label", "NotScheme": "value",
        "NotList": "value", "InvalidStep": "value", "InvalidEdits": "value", "InvalidCosts": "value",
        "InvalidRow": "value", "InvalidCounts": "value", "InvalidKind": "value", "InvalidOrder": "value",
        "UnlikeCosts": "value", "InvalidFact": "value", "InvalidChoice": "value", "InvalidRelation": "value",
        "InvalidText": "value", "InvalidLine": "index", "InvalidCommand": "value",
    },
    "MissingError": {"UnknownCost": "label", "UnknownWord": "label", "UnknownIndex": "index"},
    "StateError": {"TooMany": "most", "NotPossible": "parts", "NothingToUndo": None},
}

CLASSES = [
    (getattr(errors, base), getattr(errors, name), field)
    for base, members in FIELDS.items() for name, field in members.items()
]
WITH_FIELD = [(base, one, field) for base, one, field in CLASSES if field is not None]


class BasesTest(unittest.TestCase):
    def test_each_base_is_directly_below_its_python_error(self):
        for name, above in BASES.items():
            self.assertEqual(getattr(errors, name).__bases__, (above,))

    def test_bases_take_one_string(self):
        for name in BASES:
            made = getattr(errors, name)("some words")
            self.assertEqual(made.args, ("some words",))
            self.assertIn("some words", str(made))

    def test_bases_are_caught_by_what_is_above_them(self):
        for name, above in BASES.items():
            with self.assertRaises(above):
                raise getattr(errors, name)("some words")

    def test_no_base_is_below_another_one(self):
        self.assertFalse(issubclass(errors.MissingError, errors.StateError))
        self.assertFalse(issubclass(errors.StateError, errors.MissingError))
        self.assertFalse(issubclass(errors.ChoiceError, LookupError))


class ClassesTest(unittest.TestCase):
    def test_each_class_is_directly_below_its_one_base(self):
        for base, one, _ in CLASSES:
            self.assertEqual(one.__bases__, (base,), one.__name__)

    def test_the_module_has_these_classes_and_no_others(self):
        found = [name for name, member in vars(errors).items() if inspect.isclass(member)]
        self.assertEqual(sorted(found), sorted(list(BASES) + [one.__name__ for _, one, _ in CLASSES]))
        for name in found:
            self.assertEqual(getattr(errors, name).__module__, "seenchoices.errors")

    def test_any_object_by_position_is_the_field(self):
        for _, one, field in WITH_FIELD:
            for value in any_values() + [10 ** 6000, object()]:
                self.assertIs(getattr(one(value), field), value)

    def test_any_object_by_the_name_of_the_field_is_the_field(self):
        for _, one, field in WITH_FIELD:
            for value in any_values():
                self.assertIs(getattr(one(**{field: value}), field), value)

    def test_a_list_in_the_field_is_no_copy(self):
        for _, one, field in WITH_FIELD:
            value = [1, [2]]
            made = one(value)
            value[1].append(3)
            self.assertEqual(getattr(made, field), [1, [2, 3]])

    def test_one_argument_for_each_field(self):
        for _, one, field in WITH_FIELD:
            self.assertEqual(list(inspect.signature(one).parameters), [field])
            self.assertRaises(TypeError, one)
            self.assertRaises(TypeError, one, 1, 2)
            self.assertRaises(TypeError, one, other=1)

    def test_nothing_to_undo_has_no_field(self):
        self.assertEqual(vars(errors.NothingToUndo()), {})
        self.assertRaises(TypeError, errors.NothingToUndo, 1)

    def test_fields_are_all_there_is(self):
        for _, one, field in WITH_FIELD:
            self.assertEqual(vars(one(3)), {field: 3})

    def test_caught_by_class_and_by_base_and_by_nothing_else(self):
        bases = [errors.ChoiceError, errors.MissingError, errors.StateError]
        for base, one, field in CLASSES:
            made = one() if field is None else one("x")
            for other_base, other, _ in CLASSES:
                self.assertEqual(isinstance(made, other), other is one)
            for other in bases:
                self.assertEqual(isinstance(made, other), other is base)
            for kind in (one, base, BASES[base.__name__]):
                with self.assertRaises(kind) as caught:
                    raise made
                self.assertIs(caught.exception, made)

    def test_each_has_a_text(self):
        for _, one, field in WITH_FIELD:
            self.assertIsInstance(str(one(10 ** 6000)), str)
        self.assertIsInstance(str(errors.NothingToUndo()), str)

    def test_the_helper_of_these_tests_wants_the_very_class(self):
        def fail():
            raise errors.InvalidPart(1)
        self.assertEqual(raised(errors.InvalidPart, fail).value, 1)
        self.assertRaises(AssertionError, raised, errors.ChoiceError, fail)
        self.assertRaises(AssertionError, raised, errors.ChoiceError, len, "")


if __name__ == "__main__":
    unittest.main()
