"""The interface of the modules that there are: names, arguments, kinds of values, examples."""

import doctest
import importlib
import inspect
import pathlib
import unittest

from surerests.errors import BadArrow, BadTable, HasOdd, HasRing, NoEven
from surerests.rings import all_rings, can_be_even, can_be_odd, check_ring, depth, even_ring, knots, odd_ring, order_of
from surerests.rules import Rules, all_rests, copying, lowest_rules
from surerests.sides import check_sides, is_under, sides_of, turned
from surerests.uniques import at_most_one, check_two, ring_between, two_rests
from surerests.wirings import Wiring
from tests.samples import caught, samples, wired

FUNCTIONS = {
    "naming": {"valid_name": "text"},
    "rings": {
        "all_rings": "wiring", "check_ring": "wiring value", "can_be_even": "wiring ring", "can_be_odd": "wiring ring",
        "even_ring": "wiring", "odd_ring": "wiring", "order_of": "wiring", "depth": "wiring", "knots": "wiring",
    },
    "rules": {"all_rests": "rules", "lowest_rules": "wiring", "copying": "wiring arrows shift"},
    "sides": {
        "check_sides": "wiring sides", "sides_of": "wiring", "turned": "wiring sides state",
        "is_under": "wiring sides one other",
    },
    "uniques": {
        "at_most_one": "wiring", "two_rests": "wiring", "check_two": "wiring rules one other",
        "ring_between": "rules one other",
    },
}

CLASSES = {
    ("wirings", "Wiring"): {
        "__init__": "self tops arrows", "top": "self name", "sources": "self name", "sign": "self source target",
        "states": "self", "is_state": "self value", "with_arrow": "self source target sign",
        "without_arrow": "self source target", "only": "self names", "mirrored": "self",
        "__eq__": "self other", "__str__": "self",
    },
    ("rules", "Rules"): {
        "__init__": "self wiring tables", "table": "self name", "next": "self state", "rests": "self state",
        "__eq__": "self other",
    },
}

PROPERTIES = {("wirings", "Wiring"): ["parts", "arrows"], ("rules", "Rules"): ["wiring"]}


def module(name):
    return importlib.import_module(f"surerests.{name}")


def words(call):
    return " ".join(inspect.signature(call).parameters)


class TestNames(unittest.TestCase):
    def test_functions(self):
        for place, functions in FUNCTIONS.items():
            for name, told in functions.items():
                with self.subTest(place, name=name):
                    function = vars(module(place))[name]
                    self.assertEqual(words(function), told)
                    self.assertEqual(function.__module__, f"surerests.{place}")

    def test_methods_are_defined_in_the_class(self):
        for (place, name), methods in CLASSES.items():
            kind = vars(module(place))[name]
            self.assertEqual(kind.__module__, f"surerests.{place}")
            for method, told in methods.items():
                with self.subTest(name, method=method):
                    self.assertEqual(words(vars(kind)[method]), told)

    def test_class_method(self):
        self.assertEqual(words(Wiring.read), "text")
        self.assertIsInstance(vars(Wiring)["read"], classmethod)

    def test_properties_cannot_be_assigned(self):
        wiring = Wiring({"a": 1}, [])
        held = {"Wiring": wiring, "Rules": lowest_rules(wiring)}
        for (place, name), properties in PROPERTIES.items():
            for each in properties:
                self.assertIsInstance(vars(vars(module(place))[name])[each], property)
                with self.assertRaises(AttributeError):
                    setattr(held[name], each, ())


class TestKinds(unittest.TestCase):
    def test_kinds_of_results(self):
        for wiring in samples():
            first = wiring.parts[0]
            told = {
                "parts": (wiring.parts, tuple),
                "arrows": (wiring.arrows, tuple),
                "top": (wiring.top(first), int),
                "sources": (wiring.sources(first), tuple),
                "states": (wiring.states(), list),
                "state": (wiring.states()[0], tuple),
                "is_state": (wiring.is_state(()), bool),
                "with_arrow": (wiring.with_arrow(first, first, "+"), Wiring),
                "without_arrow": (wiring.with_arrow(first, first, "+").without_arrow(first, first), Wiring),
                "only": (wiring.only([first]), Wiring),
                "mirrored": (wiring.mirrored(), Wiring),
                "read": (Wiring.read(str(wiring)), Wiring),
                "str": (str(wiring), str),
                "==": (wiring == wiring, bool),
            }
            for name, (value, kind) in told.items():
                with self.subTest(name, wiring=str(wiring)):
                    self.assertIs(value.__class__, kind)
            for arrow in wiring.arrows:
                self.assertIs(arrow.__class__, tuple)

    def check_kinds(self, told):
        for name, (value, kind) in told.items():
            with self.subTest(name):
                self.assertIs(value.__class__, kind)

    def test_kinds_of_results_of_rings(self):
        wiring = wired("a:1 b:1 c:1; a + b; b ? a")
        plain = wired("a:1 b:1; a + b")
        self.check_kinds({
            "all_rings": (all_rings(wiring), list),
            "ring": (all_rings(wiring)[0], tuple),
            "check_ring": (check_ring(wiring, ("a", "b")), bool),
            "can_be_even": (can_be_even(wiring, ("a", "b")), bool),
            "can_be_odd": (can_be_odd(wiring, ("a", "b")), bool),
            "even_ring": (even_ring(wiring), tuple),
            "odd_ring": (odd_ring(wiring), tuple),
            "order_of": (order_of(plain), tuple),
            "depth": (depth(plain), int),
            "knots": (knots(wiring), list),
            "knot": (knots(wiring)[0], tuple),
        })

    def test_kinds_of_results_of_rules_sides_and_uniques(self):
        wiring = wired("a:1 b:1; a + b; b + a")
        sides = {"a": 0, "b": 0}
        rules, one, other = two_rests(wiring)
        self.check_kinds({
            "Rules.wiring": (rules.wiring, Wiring),
            "table": (rules.table("a"), dict),
            "next": (rules.next((0, 0)), tuple),
            "rests": (rules.rests((0, 0)), bool),
            "==": (rules == rules, bool),
            "all_rests": (all_rests(rules), list),
            "rest": (all_rests(rules)[0], tuple),
            "lowest_rules": (lowest_rules(wiring), Rules),
            "copying": (copying(wiring, [], 1), Rules),
            "check_sides": (check_sides(wiring, sides), bool),
            "is_under": (is_under(wiring, sides, (0, 0), (0, 0)), bool),
            "sides_of": (sides_of(wiring), dict),
            "turned": (turned(wiring, sides, (0, 0)), tuple),
            "at_most_one": (at_most_one(wiring), bool),
            "check_two": (check_two(wiring, rules, one, other), bool),
            "two_rests": (two_rests(wiring), tuple),
            "rules": (rules, Rules),
            "one": (one, tuple),
            "other": (other, tuple),
            "ring_between": (ring_between(rules, one, other), tuple),
        })


class TestExamples(unittest.TestCase):
    def setUp(self):
        self.wiring = Wiring({"b": 2, "a": 1}, [("b", "b", "?"), ("a", "b", "+"), ("b", "a", "-")])

    def test_first(self):
        wiring = self.wiring
        told = [str(wiring), wiring.parts, wiring.sources("b"), wiring.sign("b", "a"), wiring.sign("a", "a")]
        self.assertEqual(told, ["a:1 b:2; a + b; b - a; b ? b", ("a", "b"), ("a", "b"), "-", None])

    def test_second(self):
        wiring = self.wiring
        told = [len(wiring.states()), wiring.is_state((1, 2)), wiring.is_state((2, 1)), str(wiring.only(["b"]))]
        self.assertEqual(told, [6, True, False, "b:2; b ? b"])

    def test_third(self):
        told = [str(self.wiring.with_arrow("a", "b", "-").without_arrow("b", "b")), str(self.wiring.mirrored())]
        self.assertEqual(told, ["a:1 b:2; a - b; b - a", "a:1 b:2; a - b; b + a; b ? b"])

    def test_fourth(self):
        error = caught(BadArrow, lambda: Wiring({"a": 1}, [("a", "b", "+")]))
        self.assertEqual(error.value, ("a", "b", "+"))

    def test_rings(self):
        wiring = Wiring.read("a:1 b:2 c:1; a + b; b - a; b + c; c ? c")
        told = [all_rings(wiring), can_be_even(wiring, ("a", "b")), can_be_odd(wiring, ("c",)),
                even_ring(wiring), odd_ring(wiring)]
        self.assertEqual(told, [[("c",), ("a", "b")], False, True, ("c",), ("c",)])
        told = [knots(wiring), depth(Wiring.read("a:1 b:1 c:1; a + b; b - c")), order_of(Wiring.read("x:1 y:1; y + x"))]
        self.assertEqual(told, [[("a", "b"), ("c",)], 3, ("y", "x")])
        error = caught(HasRing, lambda: order_of(Wiring.read("a:1; a + a")))
        self.assertEqual(error.value, ("a",))

    def test_rules(self):
        wiring = Wiring.read("a:1 b:2; a + b; b - a")
        rules = Rules(wiring, {"a": {(0,): 1, (1,): 1, (2,): 0}, "b": {(0,): 0, (1,): 1}})
        told = [rules.next((0, 2)), rules.rests((1, 1)), all_rests(rules), all_rests(lowest_rules(wiring))]
        self.assertEqual(told, [(0, 0), True, [(1, 1)], [(0, 0)]])
        told = [all_rests(copying(wiring, wiring.arrows, 1)), copying(wiring, [("b", "a", "-")], 1).table("a")]
        self.assertEqual(told, [[], {(0,): 1, (1,): 0, (2,): 0}])
        error = caught(BadTable, lambda: Rules(Wiring.read("a:1; a + a"), {"a": {(0,): 1, (1,): 0}}))
        self.assertEqual(error.name, "a")

    def test_sides(self):
        wiring = Wiring.read("a:1 b:2 c:1; a - b; b - a; b ? c; c + c")
        told = [sides_of(wiring), check_sides(wiring, {"a": 1, "b": 0, "c": 1}),
                turned(wiring, sides_of(wiring), (0, 2, 1))]
        self.assertEqual(told, [{"a": 0, "b": 1, "c": 0}, True, (0, 0, 1)])
        told = [is_under(wiring, sides_of(wiring), (0, 2, 0), (1, 1, 0)), check_sides(wiring, {"a": 0, "b": 0, "c": 0})]
        self.assertEqual(told, [True, False])
        error = caught(HasOdd, lambda: sides_of(Wiring.read("a:1 b:1; a + b; b - a")))
        self.assertEqual(error.value, ("a", "b"))

    def test_uniques(self):
        wiring = Wiring.read("a:1 b:1 c:1; a - b; b - a; b + c")
        rules, one, other = two_rests(wiring)
        told = [at_most_one(wiring), check_two(wiring, rules, one, other), check_two(wiring, rules, one, one),
                ring_between(rules, one, other)]
        self.assertEqual(told, [False, True, False, ("a", "b")])
        self.assertIs(at_most_one(Wiring.read("a:3 b:1; a + b; b - a")), True)
        caught(NoEven, lambda: two_rests(Wiring.read("a:1; a - a")))

    def test_examples_of_the_readme(self):
        readme = pathlib.Path(__file__).parent.parent / "README.md"
        told = doctest.testfile(str(readme), module_relative=False, encoding="utf-8")
        self.assertEqual(told.failed, 0)
        self.assertGreater(told.attempted, 5)


if __name__ == "__main__":
    unittest.main()
