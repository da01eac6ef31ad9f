"""Points 9 and 33 to 36: at most one state of rest, or two of them for some rules."""

import itertools
import unittest

from surerests.errors import BadState, NoEven
from surerests.rules import Rules, all_rests, lowest_rules
from surerests.uniques import at_most_one, check_two, ring_between, two_rests
from surerests.wirings import Wiring
from tests.samples import ODD_VALUES, caught, full_wiring, parities_of, rests_of, rings_of, rings_with, rules_of
from tests.samples import samples, small_wirings, tables_of, wired, wirings_of


def has_even(wiring):
    return len(rings_with(wiring, 0)) > 0


def can_both_rest(wiring, one, other):
    """True if some rules have both states as states of rest: each part has its rule for itself."""
    places = {name: at for at, name in enumerate(wiring.parts)}
    for name in wiring.parts:
        sources = [places[source] for source in wiring.sources(name)]
        first = tuple(one[at] for at in sources)
        second = tuple(other[at] for at in sources)
        told = (one[places[name]], other[places[name]])
        if not any((table[first], table[second]) == told for table in tables_of(wiring, name)):
            return False
    return True


def rules_with_two_rests():
    """Rules of small wirings and two states of rest of them, in both orders."""
    for wiring in small_wirings():
        if has_even(wiring):
            for rules in rules_of(wiring, 30):
                for one, other in itertools.permutations(all_rests(rules), 2):
                    yield rules, one, other


class TestAtMostOne(unittest.TestCase):
    def test_single_wirings(self):
        for text, told in (
            ("a:1", True), ("a:1; a + a", False), ("a:1; a - a", True), ("a:3; a ? a", False),
            ("a:1 b:1; a + b; b + a", False), ("a:1 b:1; a - b; b - a", False), ("a:1 b:1; a + b; b - a", True),
            ("a:1 b:1; a - a; b - b; a - b", True), ("a:1 b:1; a - a; b - b; a - b; b - a", False),
            ("a:1 b:1 c:1; a + b; b + c", True),
        ):
            self.assertIs(at_most_one(wired(text)), told, text)
            self.assertIs(at_most_one(wiring=wired(text)), told, text)

    def test_over_all_rules(self):
        for wiring in [*wirings_of({"a": 1}), *wirings_of({"a": 3}), *wirings_of({"a": 1, "b": 1})]:
            most = max(len(rests_of(rules)) for rules in rules_of(wiring))
            self.assertIs(at_most_one(wiring), most <= 1, str(wiring))

    def test_over_all_rules_by_pairs_of_states(self):
        for wiring in small_wirings():
            pairs = itertools.combinations(wiring.states(), 2)
            told = not any(can_both_rest(wiring, one, other) for one, other in pairs)
            self.assertIs(at_most_one(wiring), told, str(wiring))

    def test_exactly_if_no_ring_can_be_even(self):
        for wiring in [*small_wirings(), *samples(), *map(full_wiring, "+-?")]:
            self.assertIs(at_most_one(wiring), not has_even(wiring), str(wiring))


class TestTwoRests(unittest.TestCase):
    def check(self, wiring):
        told = two_rests(wiring)
        self.assertIsInstance(told, tuple)
        rules, one, other = told
        self.assertIsInstance(rules, Rules)
        self.assertEqual(rules.wiring, wiring)
        self.assertLess(one, other)
        self.assertIn(one, rests_of(rules))
        self.assertIn(other, rests_of(rules))
        self.assertIs(check_two(wiring, rules, one, other), True)
        self.assertEqual(two_rests(wiring=Wiring.read(str(wiring))), told)

    def test_rules_with_two_states_of_rest(self):
        count = 0
        for wiring in [*small_wirings(), *samples()]:
            if has_even(wiring):
                self.check(wiring)
                count = count + 1
            else:
                caught(NoEven, lambda: two_rests(wiring))
        self.assertGreater(count, 300)

    def test_long_rings(self):
        around = wired("a:1 b:1 c:1 d:1 e:1 f:1; a + d; d - b; b - e; e + c; c - f; f - a")
        self.check(around)
        self.check(around.mirrored())
        self.check(around.with_arrow("f", "a", "?"))
        self.check(around.with_arrow("f", "a", "+").with_arrow("b", "e", "?"))
        caught(NoEven, lambda: two_rests(around.with_arrow("f", "a", "+")))
        for sign in "+-?":
            self.check(full_wiring(sign))
            self.check(full_wiring(sign, 3))

    def test_no_even(self):
        for text in ("a:1", "a:3; a - a", "a:1 b:2; a ? b", "a:1 b:1; a + b; b - a"):
            error = caught(NoEven, lambda: two_rests(Wiring.read(text)))
            self.assertEqual(vars(error), {})


class TestCheckTwo(unittest.TestCase):
    def setUp(self):
        self.wiring = wired("a:1 b:1 c:1; a - b; b - a; b + c")
        tables = {"a": {(0,): 1, (1,): 0}, "b": {(0,): 1, (1,): 0}, "c": {(0,): 0, (1,): 1}}
        self.rules = Rules(self.wiring, tables)

    def test_all_pairs_of_states(self):
        rests = [(0, 1, 1), (1, 0, 0)]
        self.assertEqual(all_rests(self.rules), rests)
        for one, other in itertools.product(self.wiring.states(), repeat=2):
            told = one in rests and other in rests and one != other
            self.assertIs(check_two(self.wiring, self.rules, one, other), told)
        self.assertIs(check_two(other=rests[0], one=rests[1], rules=self.rules, wiring=self.wiring), True)

    def test_rules_of_small_wirings(self):
        for rules, one, other in itertools.islice(rules_with_two_rests(), 0, None, 9):
            self.assertIs(check_two(rules.wiring, rules, one, other), True)
            self.assertIs(check_two(rules.wiring, rules, one, one), False)
            for state in rules.wiring.states():
                if state not in rests_of(rules):
                    self.assertIs(check_two(rules.wiring, rules, one, state), False)
                    self.assertIs(check_two(rules.wiring, rules, state, one), False)

    def test_rules_for_another_wiring(self):
        one, other = (0, 1, 1), (1, 0, 0)
        self.assertIs(check_two(Wiring.read(str(self.wiring)), self.rules, one, other), True)
        for wiring in (self.wiring.with_arrow("a", "a", "+"), self.wiring.with_arrow("b", "c", "?"),
                       wired("a:1 b:1 c:2; a - b; b - a; b + c"), self.wiring.only(["a", "b"])):
            self.assertIs(check_two(wiring, self.rules, one, other), False)

    def test_any_values_as_states(self):
        rest = (0, 1, 1)
        more = [self.rules, lowest_rules(self.wiring), (self.rules,), (self.rules,) * 3, [self.rules], [1, 0, 0],
                (True, 0, 0), (1, 0, False), (1, 0), (1, 0, 0, 0), (2, 0, 0), ([], 0, 0), {"a": self.rules}]
        for value in ODD_VALUES + more:
            self.assertIs(check_two(self.wiring, self.rules, rest, value), False)
            self.assertIs(check_two(self.wiring, self.rules, value, rest), False)
            self.assertIs(check_two(self.wiring, self.rules, value, value), False)


class TestRingBetween(unittest.TestCase):
    def test_between_any_two_states_of_rest(self):
        count = 0
        for rules, one, other in rules_with_two_rests():
            ring = ring_between(rules, one, other)
            self.assertIn(ring, rings_of(rules.wiring))
            self.assertIn(0, parities_of(rules.wiring, ring))
            places = dict(zip(rules.wiring.parts, range(len(one))))
            self.assertTrue(all(one[places[name]] != other[places[name]] for name in ring))
            count = count + 1
        self.assertGreater(count, 1000)

    def test_a_part_that_differs_in_no_ring(self):
        wiring = wired("a:1 b:2 c:1; b + b; b + a; a - c; c + c")
        tables = {
            "a": {(0,): 0, (1,): 0, (2,): 1}, "b": {(0,): 0, (1,): 1, (2,): 2},
            "c": {(0, 0): 0, (0, 1): 1, (1, 0): 0, (1, 1): 1},
        }
        rules = Rules(wiring, tables)
        self.assertEqual(ring_between(rules, (0, 0, 0), (1, 2, 0)), ("b",))
        self.assertEqual(ring_between(rules=rules, one=(0, 1, 1), other=(0, 1, 0)), ("c",))

    def test_rings_that_can_be_even_alone(self):
        # Both parts differ, and a ring of one part that is odd stands ahead of the one that is even.
        wiring = wired("a:1 b:1; a - a; a - b; b - a; b - b")
        table = {"a": {(0, 0): 1, (0, 1): 0, (1, 0): 1, (1, 1): 0}, "b": {(0, 0): 1, (0, 1): 1, (1, 0): 0, (1, 1): 0}}
        rules = Rules(wiring, table)
        self.assertEqual(all_rests(rules), [(0, 1), (1, 0)])
        self.assertEqual(ring_between(rules, (1, 0), (0, 1)), ("a", "b"))

    def test_bad_states(self):
        wiring = wired("a:1 b:1 c:1; a - b; b - a; b + c")
        rules, one, other = two_rests(wiring)
        moving = [state for state in wiring.states() if state not in rests_of(rules)]
        self.assertGreater(len(moving), 3)
        for value in [*ODD_VALUES, *moving, list(one), (True, 0, 0), (1, 0), (1, 0, 0, 0), (1, 0, 2), (1, [], 0)]:
            with self.subTest(value=value):
                for last in (one, other, None, value):
                    self.assertIs(caught(BadState, lambda: ring_between(rules, value, last)).value, value)
                self.assertIs(caught(BadState, lambda: ring_between(rules, one, value)).value, value)
                self.assertIs(caught(BadState, lambda: ring_between(rules=rules, one=other, other=value)).value, value)

    def test_equal_states(self):
        rules, one, _ = two_rests(wired("a:1 b:1; a - b; b - a"))
        same = tuple(list(one))
        self.assertIs(caught(BadState, lambda: ring_between(rules, one, same)).value, same)


if __name__ == "__main__":
    unittest.main()
