"""The examples of the interface, and those of README.md."""

import doctest
import pathlib
import unittest

from surerests.books import Book
from surerests.errors import BadArrow, BadTable, HasOdd, HasRing, NoEven
from surerests.existence import at_least_one, climb, fall, find_rest, no_rest
from surerests.explaining import explains, is_simpler, least_explanations, needed_sources, possible_sources
from surerests.facts import clash, fits_facts, greatest_level, least_level, least_rules, may_rest, surely_rests
from surerests.numbers import apart, least_meeting, many_rests, meets, most_rests
from surerests.rings import all_rings, can_be_even, can_be_odd, depth, even_ring, knots, odd_ring, order_of
from surerests.rounds import check_circling, circling, course, run, settles
from surerests.rules import Rules, all_rests, copying, lowest_rules
from surerests.sides import check_sides, is_under, sides_of, turned
from surerests.uniques import at_most_one, check_two, ring_between, two_rests
from surerests.verdicts import Verdict, check_verdict, judge
from surerests.wirings import Wiring
from tests.samples import caught


class TestExamples(unittest.TestCase):
    def setUp(self):
        self.wiring = Wiring({"b": 2, "a": 1}, [("b", "b", "?"), ("a", "b", "+"), ("b", "a", "-")])

    def test_first(self):
        wiring = self.wiring
        told = [str(wiring), wiring.parts, wiring.sources("b"), wiring.sign("b", "a"), wiring.sign("a", "a")]
        self.assertEqual(told, ["a:1 b:2; a + b; b - a; b ? b", ("a", "b"), ("a", "b"), "-", None])

    def test_second(self):
        wiring = self.wiring
        told = [len(wiring.states()), wiring.is_state((1, 2)), wiring.is_state((2, 1)), str(wiring.only(["b"]))]
        self.assertEqual(told, [6, True, False, "b:2; b ? b"])

    def test_third(self):
        told = [str(self.wiring.with_arrow("a", "b", "-").without_arrow("b", "b")), str(self.wiring.mirrored())]
        self.assertEqual(told, ["a:1 b:2; a - b; b - a", "a:1 b:2; a - b; b + a; b ? b"])

    def test_fourth(self):
        error = caught(BadArrow, lambda: Wiring({"a": 1}, [("a", "b", "+")]))
        self.assertEqual(error.value, ("a", "b", "+"))

    def test_rings(self):
        wiring = Wiring.read("a:1 b:2 c:1; a + b; b - a; b + c; c ? c")
        told = [all_rings(wiring), can_be_even(wiring, ("a", "b")), can_be_odd(wiring, ("c",)),
                even_ring(wiring), odd_ring(wiring)]
        self.assertEqual(told, [[("c",), ("a", "b")], False, True, ("c",), ("c",)])
        told = [knots(wiring), depth(Wiring.read("a:1 b:1 c:1; a + b; b - c")), order_of(Wiring.read("x:1 y:1; y + x"))]
        self.assertEqual(told, [[("a", "b"), ("c",)], 3, ("y", "x")])
        error = caught(HasRing, lambda: order_of(Wiring.read("a:1; a + a")))
        self.assertEqual(error.value, ("a",))

    def test_rules(self):
        wiring = Wiring.read("a:1 b:2; a + b; b - a")
        rules = Rules(wiring, {"a": {(0,): 1, (1,): 1, (2,): 0}, "b": {(0,): 0, (1,): 1}})
        told = [rules.next((0, 2)), rules.rests((1, 1)), all_rests(rules), all_rests(lowest_rules(wiring))]
        self.assertEqual(told, [(0, 0), True, [(1, 1)], [(0, 0)]])
        told = [all_rests(copying(wiring, wiring.arrows, 1)), copying(wiring, [("b", "a", "-")], 1).table("a")]
        self.assertEqual(told, [[], {(0,): 1, (1,): 0, (2,): 0}])
        error = caught(BadTable, lambda: Rules(Wiring.read("a:1; a + a"), {"a": {(0,): 1, (1,): 0}}))
        self.assertEqual(error.name, "a")

    def test_sides(self):
        wiring = Wiring.read("a:1 b:2 c:1; a - b; b - a; b ? c; c + c")
        told = [sides_of(wiring), check_sides(wiring, {"a": 1, "b": 0, "c": 1}),
                turned(wiring, sides_of(wiring), (0, 2, 1))]
        self.assertEqual(told, [{"a": 0, "b": 1, "c": 0}, True, (0, 0, 1)])
        told = [is_under(wiring, sides_of(wiring), (0, 2, 0), (1, 1, 0)), check_sides(wiring, {"a": 0, "b": 0, "c": 0})]
        self.assertEqual(told, [True, False])
        error = caught(HasOdd, lambda: sides_of(Wiring.read("a:1 b:1; a + b; b - a")))
        self.assertEqual(error.value, ("a", "b"))

    def test_uniques(self):
        wiring = Wiring.read("a:1 b:1 c:1; a - b; b - a; b + c")
        rules, one, other = two_rests(wiring)
        told = [at_most_one(wiring), check_two(wiring, rules, one, other), check_two(wiring, rules, one, one),
                ring_between(rules, one, other)]
        self.assertEqual(told, [False, True, False, ("a", "b")])
        self.assertIs(at_most_one(Wiring.read("a:3 b:1; a + b; b - a")), True)
        caught(NoEven, lambda: two_rests(Wiring.read("a:1; a - a")))

    def test_existence(self):
        wiring = Wiring.read("a:1 b:2; a + b; b + a")
        rules = Rules(wiring, {"a": {(0,): 0, (1,): 0, (2,): 1}, "b": {(0,): 1, (1,): 2}})
        told = [at_least_one(wiring), climb(rules), fall(rules), find_rest(rules)]
        self.assertEqual(told, [True, [(0, 0), (0, 1)], [(1, 2)], (0, 1)])
        odd = Wiring.read("a:1 b:2; a + b; b - a")
        self.assertEqual([at_least_one(odd), all_rests(no_rest(odd))], [False, []])

    def test_numbers(self):
        wiring = Wiring.read("a:2 b:1 c:1; a + b; b + a; b + c; c - a; c - c")
        told = [meets(wiring, ("a",)), meets(wiring, ("c",)), least_meeting(wiring), apart(wiring), most_rests(wiring)]
        self.assertEqual(told, [True, False, ("b",), [("a", "b")], (2, 2)])
        self.assertEqual(len(all_rests(many_rests(wiring))), 2)

    def test_rounds(self):
        wiring = Wiring.read("a:1 b:1; a + b; b + a")
        rules = Rules(wiring, {"a": {(0,): 0, (1,): 1}, "b": {(0,): 0, (1,): 1}})
        told = [run(rules, (0, 1), 3), course(rules, (0, 1)), course(rules, (1, 1)), settles(wiring)]
        self.assertEqual(told, [[(0, 1), (1, 0), (0, 1), (1, 0)], (0, 2), (0, 1), False])
        told = [check_circling(wiring, rules, (0, 1)), check_circling(wiring, rules, (1, 1)),
                settles(Wiring.read("a:3 b:1; a + a; a - b"))]
        self.assertEqual(told, [True, False, True])
        told = circling(wiring)
        self.assertIs(check_circling(wiring, told[0], told[1]), True)

    def test_facts(self):
        wiring = Wiring.read("a:1 b:2; a + b; b + a; b - b")
        facts = [((0, 1), "b", 1), ((1, 2), "b", 1), ((1, 2), "a", 0)]
        told = [clash(wiring, facts), clash(wiring, [((0, 0), "b", 0), ((0, 1), "b", 2)])]
        self.assertEqual(told, [None, (((0, 1), "b", 2), ((0, 0), "b", 0))])
        told = [least_level(wiring, facts, "b", (1, 1)), greatest_level(wiring, facts, "b", (1, 1)),
                greatest_level(wiring, facts, "a", (0, 1))]
        self.assertEqual(told, [1, 2, 0])
        told = [surely_rests(wiring, facts, (0, 1)), may_rest(wiring, facts, (0, 0)),
                fits_facts(least_rules(wiring, facts), facts)]
        self.assertEqual(told, [True, False, True])

    def test_explaining(self):
        wiring = Wiring.read("a:1 b:1")
        facts = [((0, 0), "b", 0), ((1, 1), "b", 1), ((0, 1), "b", 0)]
        told = [least_explanations(wiring, facts, "b"), needed_sources(wiring, facts, "b"),
                least_explanations(wiring, facts, "a")]
        self.assertEqual(told, [[(("a", "b", "+"),)], ("a",), [()]])
        told = [explains(wiring, facts, "b", [("a", "b", "-"), ("b", "b", "+")]),
                possible_sources(wiring, facts[:2], "b")]
        self.assertEqual(told, [False, ("a", "b")])
        self.assertIs(is_simpler([("a", "b", "+")], [("a", "b", "?"), ("b", "b", "-")]), True)

    def test_verdicts(self):
        texts = ["a:1 b:1; a ? b", "a:1; a - a", "a:2; a + a", "a:1; a ? a"]
        told = [[judge(Wiring.read(text)).kind for text in texts], judge(Wiring.read("a:1 b:1; b + a")).paper]
        self.assertEqual(told, [["one", "at most", "at least", "any"], ("b", "a")])
        self.assertIs(check_verdict(Wiring.read("a:1 b:1; b + a"), Verdict("one", ("a", "b"))), False)

    def test_books(self):
        book = Book(Wiring.read("a:1 b:1; a + b"))
        book.put_fact((0, 0), "b", 1)
        book.put_arrow("b", "a", "+")
        kind = book.tried([("drop arrow", "a", "b"), ("drop fact", 0)]).kind
        told = [kind, book.verdict().kind, book.bounds("b", (1, 0)), len(book), (0, 0) in book, (1, 1) in book]
        self.assertEqual(told, ["one", "at least", (1, 1), 2, False, True])

    def test_examples_of_the_readme(self):
        readme = pathlib.Path(__file__).parent.parent / "README.md"
        told = doctest.testfile(str(readme), module_relative=False, encoding="utf-8")
        self.assertEqual(told.failed, 0)
        self.assertGreater(told.attempted, 5)


if __name__ == "__main__":
    unittest.main()
