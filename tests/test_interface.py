"""The interface of surerests.errors, naming and wirings: names, arguments, kinds, examples."""

import doctest
import inspect
import pathlib
import unittest

from surerests import naming, wirings
from surerests.errors import BadArrow
from surerests.wirings import Wiring
from tests.samples import caught, samples

METHODS = {
    "top": ["self", "name"],
    "sources": ["self", "name"],
    "sign": ["self", "source", "target"],
    "states": ["self"],
    "is_state": ["self", "value"],
    "with_arrow": ["self", "source", "target", "sign"],
    "without_arrow": ["self", "source", "target"],
    "only": ["self", "names"],
    "mirrored": ["self"],
    "__eq__": ["self", "other"],
    "__str__": ["self"],
}


class TestNames(unittest.TestCase):
    def test_functions(self):
        self.assertEqual(list(inspect.signature(naming.valid_name).parameters), ["text"])
        self.assertEqual(naming.valid_name.__module__, "surerests.naming")

    def test_wiring(self):
        self.assertEqual(wirings.Wiring.__module__, "surerests.wirings")
        self.assertEqual(list(inspect.signature(Wiring).parameters), ["tops", "arrows"])
        self.assertEqual(list(inspect.signature(Wiring.read).parameters), ["text"])
        self.assertIsInstance(vars(Wiring)["read"], classmethod)

    def test_methods_are_defined_in_the_class(self):
        for name, parameters in METHODS.items():
            with self.subTest(name):
                found = inspect.signature(vars(Wiring)[name]).parameters
                self.assertEqual(list(found), parameters)

    def test_properties_cannot_be_assigned(self):
        wiring = Wiring({"a": 1}, [])
        for name in ("parts", "arrows"):
            self.assertIsInstance(vars(Wiring)[name], property)
            with self.assertRaises(AttributeError):
                setattr(wiring, name, ())


class TestKinds(unittest.TestCase):
    def test_kinds_of_results(self):
        for wiring in samples():
            first = wiring.parts[0]
            told = {
                "parts": (wiring.parts, tuple),
                "arrows": (wiring.arrows, tuple),
                "top": (wiring.top(first), int),
                "sources": (wiring.sources(first), tuple),
                "states": (wiring.states(), list),
                "state": (wiring.states()[0], tuple),
                "is_state": (wiring.is_state(()), bool),
                "with_arrow": (wiring.with_arrow(first, first, "+"), Wiring),
                "without_arrow": (wiring.with_arrow(first, first, "+").without_arrow(first, first), Wiring),
                "only": (wiring.only([first]), Wiring),
                "mirrored": (wiring.mirrored(), Wiring),
                "read": (Wiring.read(str(wiring)), Wiring),
                "str": (str(wiring), str),
                "==": (wiring == wiring, bool),
            }
            for name, (value, kind) in told.items():
                with self.subTest(name, wiring=str(wiring)):
                    self.assertIs(value.__class__, kind)
            for arrow in wiring.arrows:
                self.assertIs(arrow.__class__, tuple)


class TestExamples(unittest.TestCase):
    def setUp(self):
        self.wiring = Wiring({"b": 2, "a": 1}, [("b", "b", "?"), ("a", "b", "+"), ("b", "a", "-")])

    def test_first(self):
        wiring = self.wiring
        told = [str(wiring), wiring.parts, wiring.sources("b"), wiring.sign("b", "a"), wiring.sign("a", "a")]
        self.assertEqual(told, ["a:1 b:2; a + b; b - a; b ? b", ("a", "b"), ("a", "b"), "-", None])

    def test_second(self):
        wiring = self.wiring
        told = [len(wiring.states()), wiring.is_state((1, 2)), wiring.is_state((2, 1)), str(wiring.only(["b"]))]
        self.assertEqual(told, [6, True, False, "b:2; b ? b"])

    def test_third(self):
        told = [str(self.wiring.with_arrow("a", "b", "-").without_arrow("b", "b")), str(self.wiring.mirrored())]
        self.assertEqual(told, ["a:1 b:2; a - b; b - a", "a:1 b:2; a - b; b + a; b ? b"])

    def test_fourth(self):
        error = caught(BadArrow, lambda: Wiring({"a": 1}, [("a", "b", "+")]))
        self.assertEqual(error.value, ("a", "b", "+"))

    def test_examples_of_the_readme(self):
        readme = pathlib.Path(__file__).parent.parent / "README.md"
        told = doctest.testfile(str(readme), module_relative=False, encoding="utf-8")
        self.assertEqual(told.failed, 0)
        self.assertGreater(told.attempted, 5)


if __name__ == "__main__":
    unittest.main()
