"""Points 6, 10 and 25: which tables are rules for a wiring."""

import itertools
import unittest

from surerests.errors import BadTable, UnlikeParts
from surerests.rules import Rules
from surerests.wirings import Wiring
from tests.samples import ODD_VALUES, caught, choices_of, fits, tables_of, wired


def flat_tables(wiring, level=0):
    """A table for each part, with the same level everywhere."""
    return {name: {choice: level for choice in choices_of(wiring, name)} for name in wiring.parts}


def sample():
    return wired("a:1 b:2 c:3; a + b; c - b; b ? b; b - a; c + c")


def is_refused(wiring, tables):
    try:
        Rules(wiring, tables)
    except BadTable:
        return True
    return False


class TestParts(unittest.TestCase):
    def test_keys_that_are_not_the_parts(self):
        wiring = sample()
        for names in (
            (), ("a",), ("a", "b"), ("b", "c"), ("a", "b", "d"), ("a", "b", "c", "d"), ("", "a", "b", "c"),
            ("A", "b", "c"), ("a b c",), ("aa", "b", "c"), ("a", "b", "c", "c\n"),
        ):
            tables = {name: {} for name in reversed(names)}
            with self.subTest(names):
                self.assertEqual(caught(UnlikeParts, lambda: Rules(wiring, tables)).names, tuple(sorted(names)))

    def test_keys_in_ascending_order(self):
        error = caught(UnlikeParts, lambda: Rules(wired("a:1"), {"b1": {}, "b": {}, "ab": {}, "b0": {}}))
        self.assertEqual(error.names, ("ab", "b", "b0", "b1"))

    def test_before_bad_tables(self):
        tables = {"a": {}, "b": {(): 9}, "d": {(0,): None}}
        self.assertEqual(caught(UnlikeParts, lambda: Rules(sample(), tables)).names, ("a", "b", "d"))

    def test_flat_tables_are_rules(self):
        for level in (0, 1):
            tables = flat_tables(sample(), level)
            rules = Rules(wiring=sample(), tables=tables)
            for name in "abc":
                self.assertEqual(rules.table(name), tables[name])


class TestKeys(unittest.TestCase):
    def test_a_choice_less(self):
        for name in "abc":
            for choice in choices_of(sample(), name):
                tables = flat_tables(sample())
                del tables[name][choice]
                self.assertEqual(caught(BadTable, lambda: Rules(sample(), tables)).name, name)

    def test_a_choice_more(self):
        more = {
            "a": [(), (3,), (-1,), (0, 0), (10 ** 30,)],
            "b": [(), (0,), (0, 0), (2, 0, 0), (0, 3, 0), (0, 0, 4), (0, 0, 0, 0), (-1, 0, 0)],
            "c": [(), (4,), (0, 0)],
        }
        for name in "abc":
            for choice in more[name]:
                with self.subTest(name, choice=choice):
                    tables = flat_tables(sample())
                    tables[name][choice] = 0
                    self.assertEqual(caught(BadTable, lambda: Rules(sample(), tables)).name, name)

    def test_a_choice_in_the_place_of_another(self):
        for name, old, new in (("a", (2,), (3,)), ("a", (0,), ()), ("b", (0, 0, 3), (0, 3, 0)), ("c", (0,), (0, 0))):
            tables = flat_tables(sample())
            tables[name][new] = tables[name].pop(old)
            self.assertEqual(caught(BadTable, lambda: Rules(sample(), tables)).name, name)

    def test_sources_in_ascending_order(self):
        wiring = wired("a:1 b:2 c:1; b + c; a + c")
        table = {choice: 1 for choice in itertools.product(range(2), range(3))}
        self.assertFalse(is_refused(wiring, {"a": {(): 0}, "b": {(): 2}, "c": table}))
        turned = {choice[::-1]: 1 for choice in table}
        self.assertTrue(is_refused(wiring, {"a": {(): 0}, "b": {(): 2}, "c": turned}))

    def test_a_part_without_sources(self):
        for level in (0, 1, 2):
            self.assertEqual(Rules(Wiring({"a": 2}, []), {"a": {(): level}}).next((0,)), (level,))
        for table in ({}, {(0,): 0}, {(): 0, (0,): 0}, {(0,): 0, (1,): 0}, {(): 3}, {(): -1}, {(): True}):
            self.assertEqual(caught(BadTable, lambda: Rules(Wiring({"a": 2}, []), {"a": table})).name, "a")


class TestLevels(unittest.TestCase):
    def test_levels_of_any_value(self):
        for name, top in (("a", 1), ("b", 2), ("c", 3)):
            for value in [*ODD_VALUES, top + 1, -1, (0,), [0], "0", {0: 0}]:
                with self.subTest(name, value=value):
                    tables = flat_tables(sample())
                    last = choices_of(sample(), name)[-1]
                    tables[name][last] = value
                    self.assertEqual(caught(BadTable, lambda: Rules(sample(), tables)).name, name)

    def test_levels_of_any_value_ahead_of_others(self):
        wiring = wired("a:1; a ? a")
        for value in ODD_VALUES:
            for table in ({(0,): value, (1,): 0}, {(0,): 0, (1,): value}, {(0,): value, (1,): value}):
                self.assertEqual(caught(BadTable, lambda: Rules(wiring, {"a": table})).name, "a")

    def test_true_is_not_a_level(self):
        wiring = wired("a:1; a + a")
        self.assertTrue(is_refused(wiring, {"a": {(0,): False, (1,): 1}}))
        self.assertTrue(is_refused(wiring, {"a": {(0,): 0, (1,): True}}))
        self.assertFalse(is_refused(wiring, {"a": {(0,): 0, (1,): 1}}))

    def test_all_levels(self):
        for top in (1, 2, 3):
            wiring = Wiring({"a": top, "b": 1}, [("b", "a", "?")])
            for one, other in itertools.product(range(-1, 5), repeat=2):
                tables = {"a": {(0,): one, (1,): other}, "b": {(): 0}}
                self.assertEqual(is_refused(wiring, tables), not (0 <= one <= top and 0 <= other <= top))


class TestFitting(unittest.TestCase):
    def test_one_source(self):
        fitting = {"+": [(0, 0), (0, 1), (1, 1)], "-": [(0, 0), (1, 0), (1, 1)]}
        fitting["?"] = fitting["+"] + [(1, 0)]
        for sign in "+-?":
            wiring = Wiring({"a": 1}, [("a", "a", sign)])
            for one, other in itertools.product(range(2), repeat=2):
                told = is_refused(wiring, {"a": {(0,): one, (1,): other}})
                self.assertEqual(told, (one, other) not in fitting[sign])

    def test_a_source_with_more_levels(self):
        for sign in "+-?":
            wiring = Wiring({"a": 3, "b": 3}, [("a", "b", sign)])
            for row in itertools.product(range(4), repeat=4):
                table = {(level,): row[level] for level in range(4)}
                ordered = {"+": sorted(row), "-": sorted(row, reverse=True), "?": list(row)}
                told = is_refused(wiring, {"a": {(): 0}, "b": table})
                self.assertEqual(told, list(row) != ordered[sign], (sign, row))

    def test_two_sources(self):
        for one, other in itertools.product("+-?", repeat=2):
            wiring = Wiring({"a": 1, "b": 2}, [("a", "a", one), ("b", "a", other)])
            for row in itertools.product(range(2), repeat=6):
                table = dict(zip(itertools.product(range(2), range(3)), row))
                told = is_refused(wiring, {"a": table, "b": {(): 0}})
                self.assertEqual(told, not fits([one, other], table), (one, other, row))

    def test_three_sources(self):
        for signs in (("+", "+", "-"), ("-", "?", "+"), ("?", "-", "-"), ("?", "?", "?")):
            names = "abc"
            wiring = Wiring({"a": 1, "b": 1, "c": 1}, [(name, "b", sign) for name, sign in zip(names, signs)])
            for row in itertools.product(range(2), repeat=8):
                table = dict(zip(itertools.product(range(2), repeat=3), row))
                told = is_refused(wiring, {"a": {(): 0}, "b": table, "c": {(): 0}})
                self.assertEqual(told, not fits(signs, table), (signs, row))

    def test_numbers_of_fitting_tables(self):
        # Known numbers of monotone functions.
        for count, told in ((1, 3), (2, 6), (3, 20)):
            for sign in "+-":
                wiring = Wiring(dict.fromkeys("abcd", 1), [(name, "d", sign) for name in "abc"[:count]])
                self.assertEqual(len(tables_of(wiring, "d")), told)


class TestFirstError(unittest.TestCase):
    def test_the_first_part_with_a_bad_table(self):
        wrong = {"a": {(0,): 0, (1,): 1, (2,): 0}, "b": {}, "c": {(0,): 0, (1,): 9, (2,): 0, (3,): 0}}
        for many in (1, 2, 3):
            for names in itertools.combinations("abc", many):
                tables = flat_tables(sample())
                for name in reversed(names):
                    del tables[name]
                    tables[name] = wrong[name]
                self.assertEqual(caught(BadTable, lambda: Rules(sample(), tables)).name, names[0])


class TestCopies(unittest.TestCase):
    def test_tables_that_are_passed_may_change(self):
        wiring = wired("a:1 b:1; a + b; b - a")
        tables = {"b": {(1,): 1, (0,): 0}, "a": {(0,): 1, (1,): 0}}
        rules = Rules(wiring, tables)
        same = Rules(wiring, {"a": {(0,): 1, (1,): 0}, "b": {(0,): 0, (1,): 1}})
        tables["b"][(1,)] = 0
        tables["a"].clear()
        del tables["b"]
        self.assertEqual(rules, same)
        self.assertEqual(rules.table("b"), {(0,): 0, (1,): 1})
        self.assertEqual(rules.next((1, 1)), (0, 1))

    def test_the_same_dict_for_several_parts(self):
        wiring = wired("a:1 b:1; a + b; b + a")
        table = {(0,): 0, (1,): 1}
        rules = Rules(wiring, {"a": table, "b": table})
        rules.table("a")[(0,)] = 1
        self.assertEqual([rules.table("a"), rules.table("b")], [{(0,): 0, (1,): 1}] * 2)

    def test_arguments_stay_as_they_are(self):
        tables = {"b": {(1,): 1, (0,): 0}, "a": {(1,): 0, (0,): 1}}
        Rules(wired("a:1 b:1; a + b; b - a"), tables)
        self.assertEqual(list(tables), ["b", "a"])
        self.assertEqual([list(tables["a"].items()), list(tables["b"].items())],
                         [[((1,), 0), ((0,), 1)], [((1,), 1), ((0,), 0)]])
        self.assertTrue(is_refused(wired("a:1 b:1; a + b; b + a"), tables))
        self.assertEqual(tables, {"a": {(0,): 1, (1,): 0}, "b": {(0,): 0, (1,): 1}})

    def test_the_order_of_keys_has_no_meaning(self):
        wiring = wired("a:1 b:2; a + b; b - a; b + b")
        table = {choice: max(choice) for choice in choices_of(wiring, "b")}
        for row in itertools.permutations(table):
            rules = Rules(wiring, {"b": {choice: table[choice] for choice in row}, "a": {(2,): 0, (0,): 1, (1,): 1}})
            self.assertEqual(list(rules.table("b").items()), list(table.items()))
            self.assertEqual(list(rules.table("a").items()), [((0,), 1), ((1,), 1), ((2,), 0)])


if __name__ == "__main__":
    unittest.main()
