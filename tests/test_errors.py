"""Points 11 and 12: the errors, how they stand under one another, and what they keep."""

import inspect
import unittest

from surerests import errors
from tests.samples import ODD_VALUES

ARGUMENTS = {
    "BadName": ["name"],
    "UnknownName": ["name"],
    "BadCount": ["count"],
    "BadTop": ["value"],
    "BadArrow": ["value"],
    "BadText": ["text"],
    "BadState": ["value"],
    "BadTable": ["name"],
    "BadRing": ["value"],
    "BadSet": ["value"],
    "BadFact": ["value"],
    "BadNumber": ["value"],
    "HasRing": ["value"],
    "HasOdd": ["value"],
    "NoEven": [],
    "NoOdd": [],
    "Settles": [],
    "Clash": ["value"],
    "UnlikeParts": ["names"],
    "NothingToUndo": [],
}


def classes_by_name():
    return {name: getattr(errors, name) for name in ARGUMENTS}


class TestErrors(unittest.TestCase):
    def test_twenty_errors_and_no_others(self):
        self.assertEqual(len(ARGUMENTS), 20)
        found = [name for name, value in vars(errors).items() if inspect.isclass(value)]
        self.assertEqual(sorted(found), sorted([*ARGUMENTS, "RestError"]))

    def test_each_is_defined_in_this_file(self):
        for name in [*ARGUMENTS, "RestError"]:
            self.assertEqual(getattr(errors, name).__module__, "surerests.errors")
            self.assertEqual(getattr(errors, name).__name__, name)

    def test_above_rest_error(self):
        self.assertTrue(issubclass(errors.RestError, ValueError))

    def test_each_is_a_rest_error_and_a_value_error(self):
        for name, kind in classes_by_name().items():
            with self.subTest(name):
                self.assertTrue(issubclass(kind, errors.RestError))
                self.assertTrue(issubclass(kind, ValueError))

    def test_none_is_above_another_one(self):
        for name, kind in classes_by_name().items():
            for other_name, other in classes_by_name().items():
                with self.subTest(name, other=other_name):
                    self.assertEqual(issubclass(kind, other), name == other_name)
            self.assertFalse(issubclass(errors.RestError, kind))

    def test_argument_names(self):
        for name, kind in classes_by_name().items():
            if ARGUMENTS[name]:
                with self.subTest(name):
                    self.assertEqual(list(inspect.signature(kind).parameters), ARGUMENTS[name])

    def test_raised_and_caught(self):
        for name, kind in classes_by_name().items():
            with self.subTest(name):
                with self.assertRaises(errors.RestError) as context:
                    raise kind(*ARGUMENTS[name])
                self.assertIs(context.exception.__class__, kind)


class TestArguments(unittest.TestCase):
    def test_kept_by_position_and_by_name(self):
        for name, kind in classes_by_name().items():
            for argument in ARGUMENTS[name]:
                for value in [*ODD_VALUES, "a", 0, 1, ("a", "b", "+"), object()]:
                    with self.subTest(name, value=value):
                        self.assertIs(getattr(kind(value), argument), value)
                        self.assertIs(getattr(kind(**{argument: value}), argument), value)

    def test_not_copied(self):
        for name, kind in classes_by_name().items():
            for argument in ARGUMENTS[name]:
                value = [["a"]]
                error = kind(value)
                value[0].append("b")
                self.assertEqual(getattr(error, argument), [["a", "b"]])

    def test_argument_is_needed(self):
        for name, kind in classes_by_name().items():
            if ARGUMENTS[name]:
                with self.subTest(name):
                    self.assertRaises(TypeError, kind)
                    self.assertRaises(TypeError, kind, 1, 2)

    def test_without_arguments(self):
        for name, kind in classes_by_name().items():
            if not ARGUMENTS[name]:
                with self.subTest(name):
                    self.assertIsInstance(kind(), errors.RestError)


if __name__ == "__main__":
    unittest.main()
