"""Points 8, 10, 45 and 46: runs in rounds, and where they come again."""

import itertools
import unittest

from surerests.errors import BadNumber, BadState
from surerests.rounds import course, run
from surerests.rules import Rules, copying, lowest_rules
from tests.samples import ODD_VALUES, caught, drawn_rules, full_wiring, next_of, ring_wiring, rules_of, samples
from tests.samples import small_wirings, tables_told, wired

NO_STATES = [(0,), (0, 0, 0), [0, 0], (2, 0), (0, 3), (0, -1), (True, 0), (0, False), ([], 0), "00", (None,), (0, "0")]
NO_ROUNDS = [-1, 301, 302, 10 ** 20, None, True, False, "1", "", [], [1], (), (1,), {}, {1: 1}, [[[[["a"]]]]]]


def run_of(rules, state, rounds):
    """The run, by point 8."""
    tables = tables_told(rules)
    states = [state]
    for _ in range(rounds):
        states.append(next_of(rules.wiring, tables, states[-1]))
    return states


def course_of(rules, state):
    """The course, by the point: found in a run of more rounds than twice the states."""
    states = run_of(rules, state, 2 * len(rules.wiring.states()) + 1)
    ahead = min(place for place, each in enumerate(states) if states.count(each) > 1)
    return ahead, states.index(states[ahead], ahead + 1) - ahead


def sample():
    """The rules of the document's example, and a third level on top."""
    wiring = wired("a:1 b:2; a + b; b + a")
    return Rules(wiring, {"a": {(0,): 0, (1,): 1, (2,): 1}, "b": {(0,): 0, (1,): 1}})


def around(signs, shift=1):
    """Rules in which each part of a ring copies the one before it."""
    parts = "abcdef"[:len(signs)]
    wiring = ring_wiring(list(parts), signs, (shift,) * 6)
    return copying(wiring, wiring.arrows, shift)


class TestRun(unittest.TestCase):
    def test_single_runs(self):
        self.assertEqual(run(sample(), (0, 2), 3), [(0, 2), (1, 0), (0, 1), (1, 0)])
        self.assertEqual(run(sample(), (0, 0), 2), [(0, 0), (0, 0), (0, 0)])
        self.assertEqual(run(rounds=1, state=(1, 2), rules=sample()), [(1, 2), (1, 1)])

    def test_no_rounds(self):
        for state in sample().wiring.states():
            self.assertEqual(run(sample(), state, 0), [state])

    def test_300_rounds(self):
        for state in sample().wiring.states():
            told = run(sample(), state, 300)
            self.assertEqual(len(told), 301)
            self.assertEqual(told, run_of(sample(), state, 300))
        rules, state = around("+----+"), (0, 1, 0, 0, 1, 1)
        self.assertEqual(run(rules, state, 300), run_of(rules, state, 300))
        self.assertEqual(run(around("++"), (0, 1), 299)[-2:], [(0, 1), (1, 0)])

    def test_runs_of_many_rules(self):
        for wiring in [*samples(), *map(full_wiring, "+-?"), full_wiring("?", 3)]:
            rules = drawn_rules(wiring, 5)
            for state in wiring.states()[::7]:
                self.assertEqual(run(rules, state, 6), run_of(rules, state, 6))

    def test_bad_states_ahead_of_bad_numbers(self):
        for value in ODD_VALUES + NO_STATES:
            with self.subTest(value=value):
                for rounds in (0, 5, -1, 301, None, True, value):
                    self.assertIs(caught(BadState, lambda: run(sample(), value, rounds)).value, value)
                self.assertIs(caught(BadState, lambda: run(rules=sample(), state=value, rounds=2)).value, value)
                self.assertIs(caught(BadState, lambda: course(sample(), value)).value, value)
                self.assertIs(caught(BadState, lambda: course(rules=sample(), state=value)).value, value)

    def test_bad_numbers(self):
        for value in NO_ROUNDS + [(0, 0), {"a": {"b": [{"c": (1, 2)}]}}]:
            with self.subTest(value=value):
                self.assertIs(caught(BadNumber, lambda: run(sample(), (0, 0), value)).value, value)
                self.assertIs(caught(BadNumber, lambda: run(sample(), (0, 1), rounds=value)).value, value)

    def test_the_list_is_new(self):
        run(sample(), (0, 0), 2).clear()
        self.assertEqual(run(sample(), (0, 0), 1), [(0, 0), (0, 0)])


class TestCourse(unittest.TestCase):
    def test_rests_at_once(self):
        for rules, state in ((sample(), (0, 0)), (sample(), (1, 1)), (lowest_rules(wired("a:3")), (0,))):
            self.assertEqual(course(rules, state), (0, 1))

    def test_rests_later(self):
        rules = Rules(wired("a:3; a + a"), {"a": {(0,): 0, (1,): 0, (2,): 1, (3,): 2}})
        self.assertEqual([course(rules, (level,)) for level in range(4)], [(0, 1), (1, 1), (2, 1), (3, 1)])
        self.assertEqual(course(sample(), (1, 2)), (1, 1))
        row = wired("a:1 b:1 c:1 d:1 e:1 f:1; a + b; b + c; c + d; d + e; e + f")
        self.assertEqual(course(state=(1, 0, 0, 0, 0, 0), rules=copying(row, row.arrows, 1)), (6, 1))

    def test_goes_round(self):
        self.assertEqual(course(sample(), (0, 1)), (0, 2))
        self.assertEqual(course(sample(), (0, 2)), (1, 2))
        self.assertEqual(course(around("-"), (0,)), (0, 2))

    def test_rounds_of_several_lengths(self):
        lengths = {}
        for signs in ("+", "-", "++", "+-", "+++", "++-", "--+", "+-++", "++++", "+++++", "-----", "++++++", "-+++++"):
            rules = around(signs)
            for state in rules.wiring.states():
                ahead, length = course(rules, state)
                self.assertEqual(ahead, 0)
                self.assertEqual((ahead, length), course_of(rules, state))
                lengths[length] = True
        self.assertEqual(sorted(lengths), [1, 2, 3, 4, 5, 6, 8, 10, 12])

    def test_by_the_point(self):
        told = {}
        drawn = [drawn_rules(wiring, 3) for wiring in [*samples(), full_wiring("-").only(list("abcd"))]]
        for wiring in itertools.islice(small_wirings(), 0, None, 4):
            drawn.extend(rules_of(wiring, 6))
        for rules in drawn:
            for state in rules.wiring.states()[::3]:
                pair = course(rules, state)
                self.assertEqual(pair, course_of(rules, state))
                self.assertIsInstance(pair, tuple)
                told[pair] = True
        self.assertGreater(len(told), 8)

    def test_comes_to_rest_exactly_if_the_length_is_1(self):
        for wiring in itertools.islice(small_wirings(), 0, None, 9):
            for rules in itertools.islice(rules_of(wiring, 10), 10):
                for state in wiring.states():
                    rests = any(rules.rests(each) for each in run_of(rules, state, len(wiring.states())))
                    self.assertEqual(course(rules, state)[1] == 1, rests)

    def test_256_states(self):
        # The longest way: each part is raised where all parts behind it are at their tops.
        wiring = full_wiring("?", 3)
        rules = Rules(wiring, {name: {
            choice: (choice[place] + (set(choice[place + 1:]) <= {3})) % 4 for choice in wiring.states()
        } for place, name in enumerate(wiring.parts)})
        self.assertEqual(course(rules, (0, 0, 0, 0)), (0, 256))
        stopped = Rules(wiring, {name: {
            choice: 3 if set(choice) == {3} else level for choice, level in rules.table(name).items()
        } for name in wiring.parts})
        self.assertEqual(course(stopped, (0, 0, 0, 0)), (255, 1))
        self.assertEqual(run(stopped, (0, 0, 0, 0), 300)[-46:], [(3, 3, 3, 3)] * 46)


if __name__ == "__main__":
    unittest.main()
