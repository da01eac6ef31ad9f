"""Points 6, 10, 26 and 27: what rules tell, equality, and states of rest."""

import unittest

from surerests.errors import BadState, UnknownName
from surerests.rules import Rules, all_rests, lowest_rules
from surerests.wirings import Wiring
from tests.samples import ODD_VALUES, caught, next_of, rules_of, small_wirings, tables_told, wired


def sample():
    wiring = wired("a:1 b:2 c:1; a + b; b - a; b ? c; c + c")
    return Rules(wiring, {
        "a": {(0,): 1, (1,): 1, (2,): 0},
        "b": {(0,): 0, (1,): 2},
        "c": {(0, 0): 0, (0, 1): 1, (1, 0): 0, (1, 1): 0, (2, 0): 1, (2, 1): 1},
    })


class TestTables(unittest.TestCase):
    def test_wiring(self):
        self.assertEqual(sample().wiring, wired("a:1 b:2 c:1; a + b; b - a; b ? c; c + c"))

    def test_table(self):
        self.assertEqual(sample().table("a"), {(0,): 1, (1,): 1, (2,): 0})
        self.assertEqual(sample().table(name="b"), {(0,): 0, (1,): 2})

    def test_unknown_names(self):
        for name in ("", "d", "A", "ab", "a ", "abcdefg", "a\n", "wiring"):
            self.assertEqual(caught(UnknownName, lambda: sample().table(name)).name, name)
            self.assertEqual(caught(UnknownName, lambda: sample().table(name=name)).name, name)

    def test_a_table_that_is_told_may_change(self):
        rules = sample()
        told = rules.table("a")
        told[(0,)] = 0
        told[(7,)] = 0
        self.assertEqual(rules, sample())
        self.assertEqual(rules.table("a"), {(0,): 1, (1,): 1, (2,): 0})
        rules.table("b").clear()
        self.assertEqual(rules.next((1, 0, 0)), (1, 2, 0))


class TestNext(unittest.TestCase):
    def test_next(self):
        rules = sample()
        self.assertEqual(rules.next((0, 0, 0)), (1, 0, 0))
        self.assertEqual(rules.next((1, 1, 1)), (1, 2, 0))
        self.assertEqual(rules.next(state=(0, 2, 0)), (0, 0, 1))

    def test_rests(self):
        rules = sample()
        self.assertIs(rules.rests((0, 0, 0)), False)
        self.assertIs(rules.rests(state=(1, 2, 1)), False)
        still = lowest_rules(rules.wiring)
        self.assertIs(still.rests((0, 0, 0)), True)
        self.assertIs(still.rests((0, 0, 1)), False)

    def test_small_wirings(self):
        for wiring in small_wirings():
            for rules in rules_of(wiring, 10):
                tables = tables_told(rules)
                rests = []
                for state in wiring.states():
                    behind = next_of(wiring, tables, state)
                    self.assertEqual(rules.next(state), behind)
                    self.assertIs(rules.rests(state), behind == state)
                    if behind == state:
                        rests.append(state)
                self.assertEqual(all_rests(rules), rests)

    def test_names_of_which_one_begins_with_the_other(self):
        wiring = wired("a:3 a1:2 b:1; b + a; a1 + a; a - b")
        table = {(0, 0): 0, (0, 1): 1, (1, 0): 1, (1, 1): 2, (2, 0): 2, (2, 1): 3}
        rules = Rules(wiring, {"a": table, "a1": {(): 2}, "b": {(0,): 1, (1,): 1, (2,): 0, (3,): 0}})
        self.assertEqual(rules.next((3, 1, 0)), (1, 2, 0))
        self.assertEqual(rules.next((1, 0, 1)), (1, 2, 1))
        self.assertEqual(all_rests(rules), [(2, 2, 0)])

    def test_bad_states(self):
        rules = sample()
        more = [(0, 0), (0, 0, 0, 0), [0, 0, 0], (2, 0, 0), (0, 3, 0), (0, 0, -1), (0, 0, True), (False, 0, 0), "000",
                (0, 0, None), (0, 0, [0]), (0, 0, (0,)), {0: 0, 1: 0, 2: 0}]
        for value in ODD_VALUES + more:
            with self.subTest(value=value):
                self.assertIs(caught(BadState, lambda: rules.next(value)).value, value)
                self.assertIs(caught(BadState, lambda: rules.rests(value)).value, value)
                self.assertIs(caught(BadState, lambda: rules.rests(state=value)).value, value)
        self.assertEqual(rules, sample())


class TestEquality(unittest.TestCase):
    def test_equal_rules(self):
        one, other = sample(), sample()
        self.assertIs(one == other, True)
        self.assertIs(one != other, False)
        self.assertIs(one == Rules(other.wiring, tables_told(other)), True)

    def test_other_tables(self):
        wiring = wired("a:1 b:1; a + b; b ? a")
        told = list(rules_of(wiring))
        self.assertEqual(len(told), 12)
        for place, one in enumerate(told):
            for other_place, other in enumerate(told):
                self.assertIs(one == other, place == other_place)
                self.assertIs(one != other, place != other_place)

    def test_other_wirings(self):
        table = {(0,): 0, (1,): 1}
        texts = ["a:1; a + a", "a:1; a ? a"]
        one, other = [Rules(Wiring.read(text), {"a": table}) for text in texts]
        self.assertIs(one == other, False)
        self.assertIs(one != other, True)
        lower, higher = [Rules(Wiring.read(text), {"a": {(): 0}}) for text in ("a:1", "a:2")]
        self.assertIs(lower == higher, False)

    def test_values_of_other_kinds(self):
        rules = sample()
        others = [*ODD_VALUES, rules.wiring, tables_told(rules), rules.table("a"), (rules.wiring, tables_told(rules))]
        for value in others:
            self.assertIs(rules == value, False)
            self.assertIs(value == rules, False)
            self.assertIs(rules != value, True)


class TestAllRests(unittest.TestCase):
    def test_all_in_order(self):
        wiring = wired("a:1 b:2; a + a; b + b")
        rules = Rules(wiring, {"a": {(0,): 0, (1,): 1}, "b": {(0,): 0, (1,): 1, (2,): 2}})
        self.assertEqual(all_rests(rules), [(0, 0), (0, 1), (0, 2), (1, 0), (1, 1), (1, 2)])
        self.assertEqual(all_rests(rules=rules), wiring.states())

    def test_none(self):
        self.assertEqual(all_rests(Rules(wired("a:1; a - a"), {"a": {(0,): 1, (1,): 0}})), [])

    def test_256_states(self):
        wiring = Wiring({name: 3 for name in "abcd"}, [(name, name, "+") for name in "abcd"])
        copies = {(level,): level for level in range(4)}
        self.assertEqual(all_rests(Rules(wiring, dict.fromkeys("abcd", copies))), wiring.states())

    def test_the_list_is_new(self):
        rules = lowest_rules(wired("a:1"))
        all_rests(rules).clear()
        self.assertEqual(all_rests(rules), [(0,)])


if __name__ == "__main__":
    unittest.main()
