"""Points 10, 39 and 40: ways to a state of rest from both extremes."""

import itertools
import unittest

from surerests.errors import HasOdd
from surerests.existence import climb, fall, find_rest
from surerests.rings import knots
from surerests.rules import Rules, lowest_rules
from surerests.sides import is_under, sides_of
from surerests.wirings import Wiring
from tests.samples import caught, drawn_rules, full_wiring, long_rings, next_of, rings_with, rules_of, samples
from tests.samples import small_wirings, tables_told, wired, wirings_of

LONG_TEXT = "a:3 b:3 c:1 d:1 e:1 f:1; a - b; b - a; b ? c; c + d; d - e; e - c; f + f; e ? f; a - f; c + c; a + a"


def even_wirings():
    """Wirings in which no ring can be odd."""
    for wiring in [*small_wirings(), *samples(), *wirings_of({"a": 2, "b": 2}, 3), *long_rings()]:
        if not rings_with(wiring, 1):
            yield wiring


def step_of(rules, state):
    """The state behind this one in such a list, by the point."""
    places = dict(zip(rules.wiring.parts, range(len(state))))
    after = next_of(rules.wiring, tables_told(rules), state)
    for knot in knots(rules.wiring):
        moved = list(state)
        for name in knot:
            moved[places[name]] = after[places[name]]
        if moved != list(state):
            return tuple(moved)
    return None


class WayCase(unittest.TestCase):
    def check(self, rules):
        wiring = rules.wiring
        sides = sides_of(wiring)
        low = tuple(wiring.top(name) if sides[name] else 0 for name in wiring.parts)
        high = tuple(0 if sides[name] else wiring.top(name) for name in wiring.parts)
        up, down = climb(rules), fall(rules)
        self.check_way(rules, up, low)
        self.check_way(rules, down, high)
        for one, other in itertools.pairwise(up):
            self.assertIs(is_under(wiring, sides, one, other), True)
        for one, other in itertools.pairwise(down):
            self.assertIs(is_under(wiring, sides, other, one), True)
        self.assertEqual(find_rest(rules), up[-1])
        return len(up), len(down)

    def check_way(self, rules, way, first):
        wiring = rules.wiring
        self.assertIsInstance(way, list)
        self.assertEqual(way[0], first)
        for one, other in itertools.pairwise(way):
            self.assertEqual(step_of(rules, one), other)
        self.assertIsNone(step_of(rules, way[-1]))
        self.assertLessEqual(len(way), 1 + sum(wiring.top(name) for name in wiring.parts))
        self.assertTrue(all(wiring.is_state(state) for state in way))


class TestWays(WayCase):
    def test_rules_of_small_wirings(self):
        lengths = {}
        for wiring in even_wirings():
            for rules in rules_of(wiring, 8) if len(wiring.parts) < 4 else [drawn_rules(wiring, 1)]:
                for length in self.check(rules):
                    lengths[length] = True
        self.assertGreaterEqual(sorted(lengths), [1, 2, 3, 4, 5])

    def test_six_parts(self):
        lengths = {}
        for wiring in (wired(LONG_TEXT), full_wiring("+"), full_wiring("+", 3)):
            for seed in range(30):
                for length in self.check(drawn_rules(wiring, seed)):
                    lengths[length] = True
        self.assertGreater(max(lengths), 4)

    def test_the_greatest_length(self):
        rules = Rules(wired("a:3; a + a"), {"a": {(0,): 1, (1,): 2, (2,): 3, (3,): 3}})
        self.assertEqual(climb(rules), [(0,), (1,), (2,), (3,)])
        self.assertEqual(fall(rules), [(3,)])
        rules = Rules(wired("a:3; a + a"), {"a": {(0,): 0, (1,): 0, (2,): 1, (3,): 2}})
        self.assertEqual(climb(rules), [(0,)])
        self.assertEqual(fall(rules=rules), [(3,), (2,), (1,), (0,)])
        wiring = wired("a:1 b:1 c:1 d:1 e:1 f:1; a + b; b + c; c + d; d + e; e + f; f + a; a + a")
        copies = {(0,): 0, (1,): 1}
        tables = {name: copies for name in "bcdef"}
        rules = Rules(wiring, {**tables, "a": {(0, 0): 1, (0, 1): 1, (1, 0): 1, (1, 1): 1}})
        self.assertEqual(self.check(rules), (7, 1))

    def test_knots_one_after_the_other(self):
        wiring = wired("a:2 b:1 c:1 d:1; b - c; c - b; c ? a; a ? d; d + d")
        rules = Rules(wiring, {
            "a": {(0,): 2, (1,): 1},
            "b": {(0,): 1, (1,): 1},
            "c": {(0,): 0, (1,): 0},
            "d": {(0, 0): 0, (0, 1): 0, (1, 0): 1, (1, 1): 1, (2, 0): 1, (2, 1): 1},
        })
        self.assertEqual(knots(wiring), [("b", "c"), ("a",), ("d",)])
        # d would change at once if it had not to wait, and never goes to 1 by the first level of a.
        self.assertEqual(climb(rules), [(0, 0, 1, 0), (0, 1, 0, 0), (2, 1, 0, 0), (2, 1, 0, 1)])
        self.assertEqual(fall(rules), [(2, 1, 0, 1)])
        self.assertEqual(find_rest(rules=rules), (2, 1, 0, 1))

    def test_extremes_that_rest(self):
        wiring = wired("a:1 b:2; a + b; b + a")
        rules = Rules(wiring, {"a": {(0,): 0, (1,): 0, (2,): 1}, "b": {(0,): 0, (1,): 2}})
        self.assertEqual([climb(rules), fall(rules), find_rest(rules)], [[(0, 0)], [(1, 2)], (0, 0)])

    def test_lowest_rules(self):
        rules = lowest_rules(wired("a:3 b:2 c:1"))
        self.assertEqual(climb(rules), [(0, 0, 0)])
        self.assertEqual(fall(rules), [(3, 2, 1), (0, 2, 1), (0, 0, 1), (0, 0, 0)])

    def test_the_lists_are_new(self):
        rules = lowest_rules(wired("a:3"))
        for call in (climb, fall):
            told = call(rules)
            call(rules).clear()
            self.assertEqual(call(rules), told)


class TestHasOdd(unittest.TestCase):
    def test_the_first_ring_that_can_be_odd(self):
        count = 0
        for wiring in [*small_wirings(), *samples(), full_wiring("-"), full_wiring("?")]:
            rings = rings_with(wiring, 1)
            if rings:
                count = count + 1
                rules = lowest_rules(wiring)
                for call in (climb, fall, find_rest):
                    self.assertEqual(caught(HasOdd, lambda: call(rules)).value, rings[0])
        self.assertGreater(count, 300)

    def test_also_where_the_extremes_rest(self):
        rules = lowest_rules(Wiring.read("a:1 b:1 c:1; a + b; b - a; c ? c"))
        for call in (climb, fall, find_rest):
            self.assertEqual(caught(HasOdd, lambda: call(rules)).value, ("c",))
            self.assertEqual(caught(HasOdd, lambda: call(rules=rules)).value, ("c",))


if __name__ == "__main__":
    unittest.main()
