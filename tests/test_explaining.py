"""Points 10, 11, 54 and 55: arrows that explain facts, and simpler ones."""

import itertools
import unittest

from surerests.errors import BadArrow, BadFact, UnknownName
from surerests.explaining import explains, is_simpler
from surerests.wirings import Wiring
from tests.samples import ODD_VALUES, all_facts, arrows_to, caught, clash_of, drawn_facts, full_wiring, samples
from tests.samples import wired


def sample():
    return wired("a:1 b:2 c:1; a + b; b - b; b ? c")


def explains_of(wiring, facts, name, arrows):
    """By point 54: the facts about the part alone, with these arrows alone."""
    alone = Wiring({part: wiring.top(part) for part in wiring.parts}, arrows)
    return clash_of(alone, [fact for fact in facts if fact[1] == name]) is None


class TestExplains(unittest.TestCase):
    def test_all_arrows_to_a_part(self):
        counts = {True: 0, False: 0}
        for wiring in (wired("a:1"), wired("a:3; a - a"), wired("a:1 b:2"), sample(), full_wiring("?", 3)):
            for name in wiring.parts:
                rows = arrows_to(wiring, name)
                for seed, many in ((0, 5), (1, 2), (3, 4), (2, 20), (5, 6)):
                    facts = drawn_facts(wiring, seed, many)
                    for arrows in itertools.islice(rows, 0, None, 1 + len(rows) // 60):
                        told = explains(wiring, facts, name, arrows)
                        self.assertIs(told, explains_of(wiring, facts, name, arrows), (facts, arrows))
                        counts[told] = counts[told] + 1
        self.assertGreater(min(counts.values()), 200)

    def test_six_parts(self):
        for wiring in (full_wiring("+"), wired("a:3 b:3 c:1 d:1 e:1 f:1; a + b")):
            for many in (10, 60):
                facts = drawn_facts(wiring, 2, many)
                for arrows in arrows_to(wiring, "b")[::97]:
                    self.assertIs(explains(wiring, facts, "b", arrows), explains_of(wiring, facts, "b", arrows))

    def test_lists_and_tuples(self):
        facts = [((0, 0, 0), "b", 0), ((1, 0, 0), "b", 2), ((0, 1, 0), "c", 1)]
        for arrows, told in (
            ([], False), ([("a", "b", "+")], True), ([("a", "b", "-")], False), ([("a", "b", "?")], True),
            ([("b", "b", "+")], False), ([("a", "b", "+"), ("b", "b", "-"), ("c", "b", "?")], True),
        ):
            self.assertIs(explains(sample(), facts, "b", arrows), told)
            self.assertIs(explains(sample(), tuple(facts), "b", tuple(arrows)), told)
            self.assertIs(explains(arrows=arrows, name="b", facts=facts, wiring=sample()), told)

    def test_no_arrows(self):
        self.assertIs(explains(sample(), [((0, 0, 0), "b", 1), ((1, 2, 1), "b", 1)], "b", []), True)
        self.assertIs(explains(sample(), [((0, 0, 0), "b", 1), ((1, 2, 1), "b", 0)], "b", ()), False)
        self.assertIs(explains(sample(), [], "b", []), True)
        self.assertIs(explains(sample(), [((0, 0, 0), "b", 1), ((1, 2, 1), "b", 0)], "a", []), True)

    def test_the_arrows_of_the_wiring_count_for_nothing(self):
        for text in ("a:1 b:1", "a:1 b:1; a + b; b ? a", "a:1 b:1; a - b; b - b"):
            facts = [((0, 0), "b", 0), ((1, 0), "b", 1)]
            self.assertIs(explains(wired(text), facts, "b", []), False)
            self.assertIs(explains(wired(text), facts, "b", [("a", "b", "+")]), True)
            self.assertIs(explains(wired(text), facts, "b", [("a", "b", "-")]), False)
            self.assertIs(explains(wired(text), facts, "b", [("b", "b", "?")]), False)

    def test_facts_about_other_parts_may_clash(self):
        facts = [((0, 0, 0), "a", 0), ((0, 0, 0), "a", 1), ((0, 0, 0), "b", 2)]
        self.assertIs(explains(sample(), facts, "b", []), True)
        self.assertIs(explains(sample(), facts, "c", []), True)
        self.assertIs(explains(sample(), facts, "a", [(name, "a", "?") for name in "abc"]), False)


class TestErrors(unittest.TestCase):
    def test_the_order_of_the_errors(self):
        good = [((0, 0, 0), "b", 0), ((0, 0, 0), "b", 1)]
        for value in (None, ((0, 0), "a", 0), [], ((0, 0, 0), "a", 2)):
            for name, arrows in (("b", []), ("x", [None]), ("", [])):
                error = caught(BadFact, lambda: explains(sample(), [*good, value], name, arrows))
                self.assertIs(error.value, value)
        for name in ("", "x", "A", "ab", "b "):
            for arrows in ([], [None], [("a", "b", "+")], [("a", name, "+")]):
                self.assertEqual(caught(UnknownName, lambda: explains(sample(), good, name, arrows)).name, name)
        for arrows in ([None], [("a", "a", "+")]):
            self.assertIs(caught(BadArrow, lambda: explains(sample(), good, "b", arrows)).value, arrows[0])

    def test_any_values_as_arrows(self):
        more = [
            ("a", "b"), ("a", "b", "+", "+"), ["a", "b", "+"], ("a", "b", "*"), ("a", "b", ""), ("a", "b", None),
            ("a", "b", "+-"), ("a", "b", ["+"]), (["a"], "b", "+"), ("a", ["b"], "+"), ({}, "b", "+"),
            ("d", "b", "+"), ("", "b", "+"), ("a", "d", "+"), ("b", "a", "+"), ("a", "a", "+"), ("c", "c", "?"),
            ("A", "b", "-"), ("a", "b", True), (("a", "b", "+"),), "a + b",
        ]
        for value in ODD_VALUES + more:
            with self.subTest(value=value):
                for arrows in ([value], (value, None), [("a", "b", "+"), value, ("a", "b", "+")]):
                    error = caught(BadArrow, lambda: explains(sample(), [], "b", arrows))
                    self.assertIs(error.value, value)

    def test_arrows_out_of_order_and_sources_that_come_twice(self):
        a, b, c = ("a", "b", "+"), ("b", "b", "-"), ("c", "b", "?")
        again = ("a", "b", "-")
        for arrows, place in (
            ([b, a], 1), ([a, c, b], 2), ([c, b, a], 1), ([b, c, a], 2), ([a, a], 1), ([a, again], 1),
            ([again, a], 1), ([a, b, b, c], 2), ([a, b, again], 2), ([a, c, ("c", "b", "+"), b], 2),
            ([("a", "b", "?"), ("a", "b", "-")], 1), ([a, ("b", "a", "+"), a], 1),
        ):
            for kind in (list, tuple):
                with self.subTest(arrows=arrows):
                    error = caught(BadArrow, lambda: explains(sample(), [], "b", kind(arrows)))
                    self.assertIs(error.value, arrows[place])
        self.assertIs(explains(sample(), [], "b", [a, b, c]), True)

    def test_arguments_stay_as_they_are(self):
        facts, arrows = [((0, 0, 0), "b", 0)], [("a", "b", "+"), ("c", "b", "-")]
        explains(sample(), facts, "b", arrows)
        self.assertEqual([facts, arrows], [[((0, 0, 0), "b", 0)], [("a", "b", "+"), ("c", "b", "-")]])


class TestIsSimpler(unittest.TestCase):
    def test_signs(self):
        for one, other in itertools.product("+-?", repeat=2):
            told = one == other or other == "?"
            self.assertIs(is_simpler([("a", "b", one)], [("a", "b", other)]), told)
            self.assertIs(is_simpler((("a", "b", one),), [("a", "b", other), ("b", "b", "+")]), told)
            self.assertIs(is_simpler(other=(("a", "b", other),), one=[("a", "b", one)]), told)
            self.assertIs(is_simpler([("c", "b", one)], [("a", "b", other)]), False)

    def test_all_arrows_to_a_part(self):
        rows = arrows_to(wired("a:1 b:1 c:1"), "b")
        self.assertEqual(len(rows), 64)
        for one, other in itertools.product(rows, repeat=2):
            signs = {source: sign for source, _, sign in other}
            told = all(signs.get(source) in (sign, "?") for source, _, sign in one)
            self.assertIs(is_simpler(one, other), told)
            self.assertIs(is_simpler(list(one), list(other)), told)

    def test_no_arrows_are_simpler_than_any(self):
        for other in ([], (), [("a", "b", "+")]):
            self.assertIs(is_simpler([], other), True)
            self.assertIs(is_simpler((), other), True)
        self.assertIs(is_simpler([("a", "b", "+")], []), False)

    def test_simpler_arrows_explain_no_more(self):
        count = 0
        for wiring in (sample(), wired("a:2 b:1"), *samples()):
            if len(wiring.parts) <= 3:
                rows = arrows_to(wiring, wiring.parts[-1])
                for seed, many in ((1, 3), (2, 6), (3, 5)):
                    facts = [(state, wiring.parts[-1], level) for state, name, level in drawn_facts(wiring, seed, many)
                             if level <= wiring.top(wiring.parts[-1])]
                    told = {row: explains(wiring, facts, wiring.parts[-1], row) for row in rows}
                    for one, other in itertools.product(rows, repeat=2):
                        if is_simpler(one, other) and told[one]:
                            self.assertTrue(told[other])
                            count = count + 1
        self.assertGreater(count, 500)

    def test_all_facts_of_one_part(self):
        wiring = wired("a:2")
        for facts in itertools.combinations(all_facts(wiring), 2):
            for arrows in arrows_to(wiring, "a"):
                self.assertIs(explains(wiring, facts, "a", arrows), explains_of(wiring, facts, "a", arrows))


if __name__ == "__main__":
    unittest.main()
