"""The interface of the modules that there are: names, arguments, kinds of values."""

import importlib
import inspect
import unittest

from surerests.books import Book
from surerests.existence import at_least_one, climb, fall, find_rest, no_rest
from surerests.explaining import explains, is_simpler, least_explanations, needed_sources, possible_sources
from surerests.facts import clash, fits_facts, greatest_level, greatest_rules, least_level, least_rules
from surerests.facts import may_rest, surely_rests
from surerests.numbers import apart, least_meeting, many_rests, meets, most_rests
from surerests.rings import all_rings, can_be_even, can_be_odd, check_ring, depth, even_ring, knots, odd_ring, order_of
from surerests.rounds import check_circling, circling, course, run, settles
from surerests.rules import Rules, all_rests, copying, lowest_rules
from surerests.sides import check_sides, is_under, sides_of, turned
from surerests.uniques import at_most_one, check_two, ring_between, two_rests
from surerests.verdicts import Verdict, check_verdict, judge
from surerests.wirings import Wiring
from tests.samples import samples, wired

FUNCTIONS = {
    "naming": {"valid_name": "text"},
    "rings": {
        "all_rings": "wiring", "check_ring": "wiring value", "can_be_even": "wiring ring", "can_be_odd": "wiring ring",
        "even_ring": "wiring", "odd_ring": "wiring", "order_of": "wiring", "depth": "wiring", "knots": "wiring",
    },
    "rules": {"all_rests": "rules", "lowest_rules": "wiring", "copying": "wiring arrows shift"},
    "sides": {
        "check_sides": "wiring sides", "sides_of": "wiring", "turned": "wiring sides state",
        "is_under": "wiring sides one other",
    },
    "uniques": {
        "at_most_one": "wiring", "two_rests": "wiring", "check_two": "wiring rules one other",
        "ring_between": "rules one other",
    },
    "existence": {
        "at_least_one": "wiring", "no_rest": "wiring", "climb": "rules", "fall": "rules", "find_rest": "rules",
    },
    "numbers": {
        "meets": "wiring names", "least_meeting": "wiring", "apart": "wiring", "many_rests": "wiring",
        "most_rests": "wiring",
    },
    "rounds": {
        "run": "rules state rounds", "course": "rules state", "settles": "wiring", "circling": "wiring",
        "check_circling": "wiring rules state",
    },
    "facts": {
        "clash": "wiring facts", "fits_facts": "rules facts", "surely_rests": "wiring facts state",
        "may_rest": "wiring facts state", "least_level": "wiring facts name state",
        "greatest_level": "wiring facts name state", "least_rules": "wiring facts", "greatest_rules": "wiring facts",
    },
    "explaining": {
        "explains": "wiring facts name arrows", "is_simpler": "one other", "least_explanations": "wiring facts name",
        "needed_sources": "wiring facts name", "possible_sources": "wiring facts name",
    },
    "verdicts": {"judge": "wiring", "check_verdict": "wiring verdict"},
}

CLASSES = {
    ("wirings", "Wiring"): {
        "__init__": "self tops arrows", "top": "self name", "sources": "self name", "sign": "self source target",
        "states": "self", "is_state": "self value", "with_arrow": "self source target sign",
        "without_arrow": "self source target", "only": "self names", "mirrored": "self",
        "__eq__": "self other", "__str__": "self",
    },
    ("rules", "Rules"): {
        "__init__": "self wiring tables", "table": "self name", "next": "self state", "rests": "self state",
        "__eq__": "self other",
    },
    ("verdicts", "Verdict"): {"__init__": "self kind paper"},
    ("books", "Book"): {
        "__init__": "self wiring", "verdict": "self", "tried": "self changes", "bounds": "self name state",
        "put_arrow": "self source target sign", "drop_arrow": "self source target",
        "put_fact": "self state name level", "drop_fact": "self number", "undo": "self", "history": "self",
        "__len__": "self", "__contains__": "self state",
    },
}

PROPERTIES = {
    ("wirings", "Wiring"): ["parts", "arrows"],
    ("rules", "Rules"): ["wiring"],
    ("verdicts", "Verdict"): ["kind", "paper"],
    ("books", "Book"): ["wiring", "facts"],
}


def module(name):
    return importlib.import_module(f"surerests.{name}")


def words(call):
    return " ".join(inspect.signature(call).parameters)


class TestNames(unittest.TestCase):
    def test_functions(self):
        for place, functions in FUNCTIONS.items():
            for name, told in functions.items():
                with self.subTest(place, name=name):
                    function = vars(module(place))[name]
                    self.assertEqual(words(function), told)
                    self.assertEqual(function.__module__, f"surerests.{place}")

    def test_methods_are_defined_in_the_class(self):
        for (place, name), methods in CLASSES.items():
            kind = vars(module(place))[name]
            self.assertEqual(kind.__module__, f"surerests.{place}")
            for method, told in methods.items():
                with self.subTest(name, method=method):
                    self.assertEqual(words(vars(kind)[method]), told)

    def test_class_method(self):
        self.assertEqual(words(Wiring.read), "text")
        self.assertIsInstance(vars(Wiring)["read"], classmethod)

    def test_properties_cannot_be_assigned(self):
        wiring = Wiring({"a": 1}, [])
        held = {
            "Wiring": wiring, "Rules": lowest_rules(wiring), "Verdict": Verdict("one", ("a",)), "Book": Book(wiring),
        }
        for (place, name), properties in PROPERTIES.items():
            for each in properties:
                self.assertIsInstance(vars(vars(module(place))[name])[each], property)
                with self.assertRaises(AttributeError):
                    setattr(held[name], each, ())


class TestKinds(unittest.TestCase):
    def test_kinds_of_results(self):
        for wiring in samples():
            first = wiring.parts[0]
            told = {
                "parts": (wiring.parts, tuple),
                "arrows": (wiring.arrows, tuple),
                "top": (wiring.top(first), int),
                "sources": (wiring.sources(first), tuple),
                "states": (wiring.states(), list),
                "state": (wiring.states()[0], tuple),
                "is_state": (wiring.is_state(()), bool),
                "with_arrow": (wiring.with_arrow(first, first, "+"), Wiring),
                "without_arrow": (wiring.with_arrow(first, first, "+").without_arrow(first, first), Wiring),
                "only": (wiring.only([first]), Wiring),
                "mirrored": (wiring.mirrored(), Wiring),
                "read": (Wiring.read(str(wiring)), Wiring),
                "str": (str(wiring), str),
                "==": (wiring == wiring, bool),
            }
            for name, (value, kind) in told.items():
                with self.subTest(name, wiring=str(wiring)):
                    self.assertIs(value.__class__, kind)
            for arrow in wiring.arrows:
                self.assertIs(arrow.__class__, tuple)

    def check_kinds(self, told):
        for name, (value, kind) in told.items():
            with self.subTest(name):
                self.assertIs(value.__class__, kind)

    def test_kinds_of_results_of_rings(self):
        wiring = wired("a:1 b:1 c:1; a + b; b ? a")
        plain = wired("a:1 b:1; a + b")
        self.check_kinds({
            "all_rings": (all_rings(wiring), list),
            "ring": (all_rings(wiring)[0], tuple),
            "check_ring": (check_ring(wiring, ("a", "b")), bool),
            "can_be_even": (can_be_even(wiring, ("a", "b")), bool),
            "can_be_odd": (can_be_odd(wiring, ("a", "b")), bool),
            "even_ring": (even_ring(wiring), tuple),
            "odd_ring": (odd_ring(wiring), tuple),
            "order_of": (order_of(plain), tuple),
            "depth": (depth(plain), int),
            "knots": (knots(wiring), list),
            "knot": (knots(wiring)[0], tuple),
        })

    def test_kinds_of_results_of_rules_sides_and_uniques(self):
        wiring = wired("a:1 b:1; a + b; b + a")
        sides = {"a": 0, "b": 0}
        rules, one, other = two_rests(wiring)
        self.check_kinds({
            "Rules.wiring": (rules.wiring, Wiring),
            "table": (rules.table("a"), dict),
            "next": (rules.next((0, 0)), tuple),
            "rests": (rules.rests((0, 0)), bool),
            "==": (rules == rules, bool),
            "all_rests": (all_rests(rules), list),
            "rest": (all_rests(rules)[0], tuple),
            "lowest_rules": (lowest_rules(wiring), Rules),
            "copying": (copying(wiring, [], 1), Rules),
            "check_sides": (check_sides(wiring, sides), bool),
            "is_under": (is_under(wiring, sides, (0, 0), (0, 0)), bool),
            "sides_of": (sides_of(wiring), dict),
            "turned": (turned(wiring, sides, (0, 0)), tuple),
            "at_most_one": (at_most_one(wiring), bool),
            "check_two": (check_two(wiring, rules, one, other), bool),
            "two_rests": (two_rests(wiring), tuple),
            "rules": (rules, Rules),
            "one": (one, tuple),
            "other": (other, tuple),
            "ring_between": (ring_between(rules, one, other), tuple),
        })

    def test_kinds_of_results_of_existence_numbers_and_rounds(self):
        wiring = wired("a:1 b:1; a + b; b + a")
        rules, state = circling(wiring)
        self.check_kinds({
            "at_least_one": (at_least_one(wiring), bool),
            "no_rest": (no_rest(wiring.with_arrow("a", "a", "-")), Rules),
            "climb": (climb(rules), list),
            "climb's state": (climb(rules)[0], tuple),
            "fall": (fall(rules), list),
            "fall's state": (fall(rules)[0], tuple),
            "find_rest": (find_rest(rules), tuple),
            "meets": (meets(wiring, ()), bool),
            "least_meeting": (least_meeting(wiring), tuple),
            "apart": (apart(wiring), list),
            "ring": (apart(wiring)[0], tuple),
            "many_rests": (many_rests(wiring), Rules),
            "most_rests": (most_rests(wiring), tuple),
            "a number": (most_rests(wiring)[0], int),
            "another number": (most_rests(wiring)[1], int),
            "run": (run(rules, state, 2), list),
            "run's state": (run(rules, state, 2)[2], tuple),
            "course": (course(rules, state), tuple),
            "ahead": (course(rules, state)[0], int),
            "length": (course(rules, state)[1], int),
            "settles": (settles(wiring), bool),
            "circling": (circling(wiring), tuple),
            "rules": (rules, Rules),
            "state": (state, tuple),
            "check_circling": (check_circling(wiring, rules, state), bool),
            "check_circling of no state": (check_circling(wiring, rules, None), bool),
        })

    def test_kinds_of_results_of_facts_and_explaining(self):
        wiring = wired("a:1 b:1; a + b; b + a")
        facts = [((0, 0), "a", 0), ((0, 1), "b", 1)]
        clashing = clash(wiring, [((1, 0), "b", 0), ((0, 0), "b", 1)])
        self.check_kinds({
            "clash": (clashing, tuple),
            "fact": (clashing[0], tuple),
            "no clash": (clash(wiring, facts), type(None)),
            "fits_facts": (fits_facts(least_rules(wiring, facts), facts), bool),
            "surely_rests": (surely_rests(wiring, facts, (0, 0)), bool),
            "may_rest": (may_rest(wiring, facts, (0, 0)), bool),
            "least_level": (least_level(wiring, facts, "a", (0, 0)), int),
            "greatest_level": (greatest_level(wiring, facts, "a", (0, 0)), int),
            "least_rules": (least_rules(wiring, facts), Rules),
            "greatest_rules": (greatest_rules(wiring, facts), Rules),
            "explains": (explains(wiring, facts, "a", []), bool),
            "is_simpler": (is_simpler([], []), bool),
            "least_explanations": (least_explanations(wiring, facts, "a"), list),
            "arrows": (least_explanations(wiring, facts, "a")[0], tuple),
            "arrow": (least_explanations(wiring, [((0, 0), "a", 0), ((1, 0), "a", 1)], "a")[0][0], tuple),
            "needed_sources": (needed_sources(wiring, facts, "a"), tuple),
            "possible_sources": (possible_sources(wiring, facts, "a"), tuple),
        })

    def test_kinds_of_results_of_verdicts_and_books(self):
        wiring = wired("a:1 b:1; a + b; b ? a")
        book = Book(wiring)
        book.put_fact((0, 0), "a", 0)
        self.check_kinds({
            "judge": (judge(wiring), Verdict),
            "kind": (judge(wiring).kind, str),
            "paper of any": (judge(wiring).paper, tuple),
            "paper of at most": (judge(wired("a:1; a - a")).paper, Rules),
            "check_verdict": (check_verdict(wiring, judge(wiring)), bool),
            "Book.wiring": (book.wiring, Wiring),
            "facts": (book.facts, tuple),
            "fact": (book.facts[0], tuple),
            "verdict": (book.verdict(), Verdict),
            "tried": (book.tried([]), Verdict),
            "bounds": (book.bounds("a", (0, 0)), tuple),
            "bound": (book.bounds("a", (0, 0))[0], int),
            "history": (book.history(), list),
            "change": (book.history()[0], tuple),
            "len": (len(book), int),
            "in": ((0, 0) in book, bool),
        })


if __name__ == "__main__":
    unittest.main()
