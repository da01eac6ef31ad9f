"""Points 9, 47 and 48: whether every run comes to rest, or rules and a state from which one does not."""

import itertools
import unittest

from surerests.errors import Settles
from surerests.rings import depth
from surerests.rounds import check_circling, circling, course, run, settles
from surerests.rules import Rules, lowest_rules
from surerests.wirings import Wiring
from tests.samples import ODD_VALUES, caught, drawn_rules, fits, full_wiring, long_rings, next_of, ringless, rings_of
from tests.samples import rings_with, rules_of, samples, small_wirings, tables_told, wired, wirings_of


def all_settle(rules):
    """True if every run comes to rest, by point 8."""
    tables = tables_told(rules)
    states = rules.wiring.states()
    after = {state: next_of(rules.wiring, tables, state) for state in states}
    held = states
    for _ in states:
        held = [after[state] for state in held]
    return all(after[state] == state for state in held)


def settles_of(wiring):
    """By the rings of point 47."""
    return all(len(ring) == 1 for ring in rings_of(wiring)) and all(len(ring) > 1 for ring in rings_with(wiring, 1))


def sample():
    wiring = wired("a:1 b:1; a + b; b + a")
    return Rules(wiring, {"a": {(0,): 0, (1,): 1}, "b": {(0,): 0, (1,): 1}})


class TestSettles(unittest.TestCase):
    def test_single_wirings(self):
        for text, told in (
            ("a:1", True), ("a:1; a + a", True), ("a:1; a - a", False), ("a:3; a ? a", False),
            ("a:1 b:1; a + b; b + a", False), ("a:1 b:1; a - b; b - a", False), ("a:1 b:1; a + b; b - a", False),
            ("a:3 b:1; a + a; a - b", True), ("a:1 b:1; a ? b; b + b; a + a", True), ("a:1 b:1; a ? b; b ? b", False),
            ("a:1 b:1 c:1; a + b; b + c; c + a", False), ("a:1 b:1 c:1; a - b; b - c; a ? c", True),
        ):
            self.assertIs(settles(wired(text)), told, text)
            self.assertIs(settles(wiring=wired(text)), told, text)

    def test_over_all_rules_and_states(self):
        for wiring in [*wirings_of({"a": 1}), *wirings_of({"a": 2}), *wirings_of({"a": 3}),
                       *wirings_of({"a": 1, "b": 1})]:
            self.assertIs(settles(wiring), all(all_settle(rules) for rules in rules_of(wiring)), str(wiring))

    def test_over_some_rules_of_larger_wirings(self):
        count = 0
        plain = {"b": 2, "c": 1, "a": 2}
        loops = [wiring.with_arrow("c", "c", "+").with_arrow("a", "a", "+") for wiring in ringless(plain, 3)]
        for wiring in [*small_wirings(), *samples(), *ringless(plain), *loops]:
            if settles(wiring):
                count = count + 1
                for seed in range(8):
                    self.assertTrue(all_settle(drawn_rules(wiring, seed)), str(wiring))
        self.assertGreater(count, 80)

    def test_exactly_by_the_rings(self):
        for wiring in [*small_wirings(), *samples(), *long_rings(), *map(full_wiring, "+-?")]:
            self.assertIs(settles(wiring), settles_of(wiring), str(wiring))

    def test_without_rings_after_at_most_depth_rounds(self):
        longest = {}
        wirings = [wired("a:1"), wired("a:1 b:3; b - a"), *ringless({"b": 2, "c": 1, "a": 2}),
                   *ringless({"f": 1, "c": 2, "a": 1, "e": 1}, 97),
                   wired("a:1 b:1 c:1 d:1 e:1 f:1; f + c; c - a; a ? e; e + b; b - d; f ? d; c + b; f - e")]
        for wiring in wirings:
            self.assertIs(settles(wiring), True)
            for seed in range(6):
                rules = drawn_rules(wiring, seed)
                for state in wiring.states():
                    self.assertTrue(rules.rests(run(rules, state, depth(wiring))[-1]))
                    longest[course(rules, state)[0]] = True
        self.assertGreaterEqual(sorted(longest), [0, 1, 2, 3, 4])


class TestCircling(unittest.TestCase):
    def check(self, wiring):
        told = circling(wiring)
        self.assertIsInstance(told, tuple)
        rules, state = told
        self.assertIsInstance(rules, Rules)
        self.assertEqual(rules.wiring, wiring)
        for name in wiring.parts:
            signs = [wiring.sign(source, name) for source in wiring.sources(name)]
            self.assertTrue(len(signs) > 3 or fits(signs, rules.table(name)))
        self.assertIn(state, wiring.states())
        tables = tables_told(rules)
        for _ in wiring.states():
            self.assertNotEqual(next_of(wiring, tables, state), state)
            state = next_of(wiring, tables, state)
        self.assertIs(check_circling(wiring, *told), True)
        self.assertEqual(circling(wiring=Wiring.read(str(wiring))), told)

    def test_rules_and_a_state(self):
        count = 0
        for wiring in [*small_wirings(), *samples(), *itertools.islice(long_rings(), 0, None, 3)]:
            if settles_of(wiring):
                caught(Settles, lambda: circling(wiring))
            else:
                self.check(wiring)
                count = count + 1
        self.assertGreater(count, 400)

    def test_long_rings_of_both_kinds(self):
        around = wired("a:1 b:1 c:1 d:1 e:1 f:1; a + d; d - b; b - e; e + c; c - f; f - a; a + a")
        self.check(around)
        self.check(around.with_arrow("f", "a", "+"))
        self.check(around.with_arrow("f", "a", "?"))
        caught(Settles, lambda: circling(around.without_arrow("f", "a")))
        self.check(around.without_arrow("f", "a").with_arrow("c", "c", "-"))

    def test_an_arrow_from_each_part_to_each(self):
        for sign in "+-?":
            self.check(full_wiring(sign))
            self.check(full_wiring(sign, 3))

    def test_settles(self):
        for text in ("a:1", "a:3; a + a", "a:1 b:2; a ? b", "a:1 b:1; a - b; b + b"):
            error = caught(Settles, lambda: circling(Wiring.read(text)))
            self.assertEqual(vars(error), {})


class TestCheckCircling(unittest.TestCase):
    def test_all_states(self):
        rules = sample()
        for state, told in (((0, 0), False), ((0, 1), True), ((1, 0), True), ((1, 1), False)):
            self.assertIs(check_circling(rules.wiring, rules, state), told)
            self.assertIs(check_circling(state=state, rules=rules, wiring=rules.wiring), told)

    def test_rules_of_small_wirings(self):
        counts = {True: 0, False: 0}
        for wiring in itertools.islice(small_wirings(), 0, None, 3):
            for rules in itertools.islice(rules_of(wiring, 6), 8):
                tables = tables_told(rules)
                for state in wiring.states():
                    last = state
                    for _ in wiring.states():
                        last = next_of(wiring, tables, last)
                    told = next_of(wiring, tables, last) != last
                    self.assertIs(check_circling(wiring, rules, state), told)
                    counts[told] = counts[told] + 1
        self.assertGreater(min(counts.values()), 200)

    def test_runs_that_come_to_rest_later(self):
        rules = lowest_rules(wired("a:1 b:2; a + b; b + a"))
        for state in rules.wiring.states():
            self.assertIs(check_circling(rules.wiring, rules, state), False)

    def test_rules_of_another_wiring(self):
        rules = sample()
        self.assertIs(check_circling(Wiring.read("a:1 b:1; a + b; b + a"), rules, (0, 1)), True)
        for text in ("a:1 b:1; a + b; b ? a", "a:1 b:2; a + b; b + a", "a:1 c:1; a + c; c + a", "a:1 b:1; a + b",
                     "a:1", "a:1 b:1 c:1; a + b; b + a"):
            for state in ((0, 1), (0,), (0, 1, 0), None):
                self.assertIs(check_circling(Wiring.read(text), rules, state), False)

    def test_any_values_as_states(self):
        rules = sample()
        more = [[0, 1], (0,), (0, 1, 0), (0, 2), (-1, 0), (True, 0), (0, True), ("0", "1"), ([], 0), rules, (rules, 1)]
        for value in ODD_VALUES + more:
            self.assertIs(check_circling(rules.wiring, rules, value), False)


if __name__ == "__main__":
    unittest.main()
