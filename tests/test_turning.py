"""Points 31 and 32: turned states, and states under others."""

import itertools
import unittest

from surerests.errors import BadNumber, BadState, UnlikeParts
from surerests.rings import knots
from surerests.sides import check_sides, is_under, sides_of, turned
from surerests.wirings import Wiring
from tests.samples import ODD_VALUES, caught, next_of, rules_of, small_wirings, wired
from tests.test_sides import all_sides

NAMES = [(), ("a",), ("b", "c"), ("a", "b", "c", "d"), ("a", "b", "d"), ("", "a", "b", "c"), ("A", "b", "c")]
STATES = [(0, 0), (0, 0, 0, 0), (2, 0, 0), (0, 4, 0), (0, 0, -1), [0, 0, 0], (0, 0, False), (True, 0, 0), (0, [0], 0)]


def sample():
    return wired("a:1 b:3 c:2; a + b; b ? a; c - c")


def turned_by_hand(wiring, sides, state):
    rows = zip(wiring.parts, state)
    return tuple([level, wiring.top(name) - level][sides[name]] for name, level in rows)


def is_under_by_hand(wiring, sides, one, other):
    rows = zip(turned_by_hand(wiring, sides, one), turned_by_hand(wiring, sides, other))
    return not any(low > high for low, high in rows)


class TestTurned(unittest.TestCase):
    def test_all_sides_and_states(self):
        for wiring in (sample(), wired("a:1"), Wiring({"b": 3, "a1": 2, "a": 1}, [])):
            for sides in all_sides(wiring):
                for state in wiring.states():
                    told = turned(wiring, sides, state)
                    self.assertEqual(told, turned_by_hand(wiring, sides, state))
                    self.assertIsInstance(told, tuple)
                    self.assertEqual(turned(wiring, sides, told), state)

    def test_one_of_each(self):
        self.assertEqual(turned(sample(), {"a": 1, "b": 0, "c": 1}, (0, 2, 2)), (1, 2, 0))
        self.assertEqual(turned(state=(1, 2, 1), sides={"c": 0, "b": 1, "a": 0}, wiring=sample()), (1, 1, 1))

    def test_sides_need_not_be_right(self):
        wiring = wired("a:1 b:1; a + b; b + a")
        self.assertIs(check_sides(wiring, {"a": 0, "b": 1}), False)
        self.assertEqual(turned(wiring, {"a": 0, "b": 1}, (0, 0)), (0, 1))

    def test_sides_stay_as_they_are(self):
        sides = {"c": 0, "b": 1, "a": 0}
        turned(sample(), sides, (0, 0, 0))
        is_under(sample(), sides, (0, 0, 0), (0, 0, 0))
        check_sides(sample(), sides)
        self.assertEqual(list(sides.items()), [("c", 0), ("b", 1), ("a", 0)])


class TestUnder(unittest.TestCase):
    def test_all_sides_and_states(self):
        for wiring in (wired("a:1 b:2 c:1; a + b; b - a"), wired("a:3")):
            for sides in all_sides(wiring):
                for one, other in itertools.product(wiring.states(), repeat=2):
                    told = is_under_by_hand(wiring, sides, one, other)
                    self.assertIs(is_under(wiring, sides, one, other), told)

    def test_one_of_each(self):
        sides = {"a": 0, "b": 1, "c": 0}
        self.assertIs(is_under(sample(), sides, (0, 3, 1), (1, 2, 1)), True)
        self.assertIs(is_under(sample(), sides, (0, 2, 1), (1, 3, 1)), False)
        self.assertIs(is_under(sample(), sides, (0, 2, 1), (0, 2, 1)), True)
        self.assertIs(is_under(other=(1, 3, 2), one=(1, 3, 1), sides=sides, wiring=sample()), True)


class TestErrors(unittest.TestCase):
    def each_call(self, sides, state, other=(0, 0, 0)):
        wiring = sample()
        return [
            lambda: turned(wiring, sides, state),
            lambda: turned(wiring=wiring, sides=sides, state=state),
            lambda: is_under(wiring, sides, state, other),
            lambda: is_under(wiring=wiring, sides=sides, one=state, other=other),
        ]

    def test_unlike_parts(self):
        for names in NAMES:
            for state in ((0, 0, 0), None):
                sides = {name: 7 for name in reversed(names)}
                for call in self.each_call(sides, state, None):
                    self.assertEqual(caught(UnlikeParts, call).names, names)

    def test_bad_numbers(self):
        for value in [*ODD_VALUES, 2, -2, "0", (1,), [0]]:
            for sides in ({"a": value, "b": 0, "c": 0}, {"c": value, "b": 0, "a": 1}, {"a": 1, "b": value, "c": 1}):
                for state in ((0, 0, 0), None):
                    for call in self.each_call(sides, state, ()):
                        self.assertIs(caught(BadNumber, call).value, value)

    def test_the_first_bad_number_by_parts(self):
        for call in self.each_call({"c": 5, "b": None, "a": 0}, (9, 9, 9)):
            self.assertIs(caught(BadNumber, call).value, None)
        for call in self.each_call({"c": 5, "b": None, "a": "x"}, (9, 9, 9)):
            self.assertEqual(caught(BadNumber, call).value, "x")

    def test_bad_states(self):
        for value in ODD_VALUES + STATES:
            for other in ((0, 0, 0), None):
                with self.subTest(value=value):
                    for call in self.each_call({"a": 0, "b": 1, "c": 0}, value, other):
                        self.assertIs(caught(BadState, call).value, value)

    def test_bad_other_states(self):
        for value in ODD_VALUES + STATES:
            for call in self.each_call({"a": 0, "b": 1, "c": 0}, (0, 0, 0), value)[2:]:
                with self.subTest(value=value):
                    self.assertIs(caught(BadState, call).value, value)


class TestKnotsOfNextStates(unittest.TestCase):
    """What the last sentence of point 32 says."""

    def check(self, rules, sides):
        wiring = rules.wiring
        tables = {name: rules.table(name) for name in wiring.parts}
        behind = {state: next_of(wiring, tables, state) for state in wiring.states()}
        for knot in knots(wiring):
            places = [wiring.parts.index(name) for name in knot]
            for one, other in itertools.product(wiring.states(), repeat=2):
                same = all(one[at] == other[at] for at in range(len(one)) if at not in places)
                if same and is_under(wiring, sides, one, other):
                    low = turned(wiring, sides, behind[one])
                    high = turned(wiring, sides, behind[other])
                    self.assertTrue(all(low[at] <= high[at] for at in places), (str(wiring), tables, one, other))

    def test_small_wirings(self):
        count = 0
        for wiring in small_wirings():
            for sides in all_sides(wiring):
                if check_sides(wiring, sides):
                    for rules in rules_of(wiring, 4):
                        self.check(rules, sides)
                        count = count + 1
        self.assertGreater(count, 500)

    def test_a_part_outside_of_the_knot(self):
        wiring = wired("a:1 b:1 c:1; a - b; b - a; c ? a; c ? b")
        sides = sides_of(wiring)
        count = 0
        for rules in rules_of(wiring):
            self.check(rules, sides)
            count = count + 1
        self.assertEqual(count, 162)


if __name__ == "__main__":
    unittest.main()
