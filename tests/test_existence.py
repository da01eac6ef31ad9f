"""Points 9, 37 and 38: at least one state of rest, or none for some rules; exactly one without rings."""

import unittest

from surerests.errors import NoOdd
from surerests.existence import at_least_one, no_rest
from surerests.rules import Rules
from surerests.uniques import at_most_one
from surerests.wirings import Wiring
from tests.samples import caught, drawn_rules, fits, full_wiring, long_rings, rests_of, ringless, rings_of, rings_with
from tests.samples import rules_of, samples, small_wirings, wired, wirings_of


def has_odd(wiring):
    return len(rings_with(wiring, 1)) > 0


def tiny_wirings():
    """Wirings of which all rules can be gone through."""
    return [*wirings_of({"a": 1}), *wirings_of({"a": 2}), *wirings_of({"a": 3}), *wirings_of({"a": 1, "b": 1})]


class TestAtLeastOne(unittest.TestCase):
    def test_single_wirings(self):
        for text, told in (
            ("a:1", True), ("a:1; a - a", False), ("a:1; a + a", True), ("a:3; a ? a", False),
            ("a:1 b:1; a + b; b - a", False), ("a:1 b:1; a - b; b - a", True), ("a:1 b:1; a + b; b + a", True),
            ("a:1 b:1; a + a; b + b; a ? b", True), ("a:1 b:1; a + a; b + b; a - b; b + a", False),
            ("a:1 b:1 c:1; a - b; b - c", True), ("a:2 b:1 c:3; a - b; b - c; c - a", False),
        ):
            self.assertIs(at_least_one(wired(text)), told, text)
            self.assertIs(at_least_one(wiring=wired(text)), told, text)

    def test_over_all_rules(self):
        for wiring in tiny_wirings():
            fewest = min(len(rests_of(rules)) for rules in rules_of(wiring))
            self.assertIs(at_least_one(wiring), fewest >= 1, str(wiring))

    def test_over_some_rules_of_larger_wirings(self):
        count = 0
        for wiring in [*wirings_of({"a": 2, "b": 1}, 3), *wirings_of({"a": 2, "b": 2}, 5), *small_wirings()]:
            if at_least_one(wiring):
                count = count + 1
                for rules in rules_of(wiring, 20):
                    self.assertGreater(len(rests_of(rules)), 0, str(wiring))
        self.assertGreater(count, 50)

    def test_over_some_rules_of_six_parts(self):
        around = wired("a:3 b:3 c:1 d:1 e:1 f:1; a - b; b - a; b ? c; c + d; d - e; e - c; f + f; e ? f; a - f; c + c")
        self.assertIs(at_least_one(around), True)
        self.assertIs(at_least_one(full_wiring("+")), True)
        for wiring in (around, full_wiring("+"), full_wiring("+", 3)):
            for seed in range(20):
                self.assertGreater(len(rests_of(drawn_rules(wiring, seed))), 0)

    def test_exactly_if_no_ring_can_be_odd(self):
        for wiring in [*small_wirings(), *samples(), *long_rings(), *map(full_wiring, "+-?")]:
            self.assertIs(at_least_one(wiring), not has_odd(wiring), str(wiring))


class TestExactlyOne(unittest.TestCase):
    def test_over_all_rules(self):
        for wiring in tiny_wirings():
            counts = {len(rests_of(rules)) for rules in rules_of(wiring)}
            self.assertEqual(at_least_one(wiring) and at_most_one(wiring), counts == {1}, str(wiring))
            self.assertEqual(counts == {1}, rings_of(wiring) == [], str(wiring))

    def test_neither_kind_of_ring(self):
        count = 0
        for wiring in [*small_wirings(), *samples(), *ringless({"c": 2, "a": 1, "b": 3})]:
            neither = at_least_one(wiring) and at_most_one(wiring)
            self.assertEqual(neither, rings_of(wiring) == [])
            if neither:
                count = count + 1
                for rules in rules_of(wiring, 30):
                    self.assertEqual(len(rests_of(rules)), 1)
        self.assertGreater(count, 70)


class TestNoRest(unittest.TestCase):
    def check(self, wiring):
        rules = no_rest(wiring)
        self.assertIsInstance(rules, Rules)
        self.assertEqual(rules.wiring, wiring)
        for name in wiring.parts:
            signs = [wiring.sign(source, name) for source in wiring.sources(name)]
            self.assertTrue(len(signs) > 3 or fits(signs, rules.table(name)))
        self.assertEqual(rests_of(rules), [])
        self.assertEqual(no_rest(wiring=Wiring.read(str(wiring))), rules)

    def test_rules_without_a_state_of_rest(self):
        count = 0
        for wiring in [*small_wirings(), *samples()]:
            if has_odd(wiring):
                self.check(wiring)
                count = count + 1
            else:
                caught(NoOdd, lambda: no_rest(wiring))
        self.assertGreater(count, 300)

    def test_odd_rings_of_every_length(self):
        lengths = {}
        for wiring in long_rings():
            if has_odd(wiring):
                self.check(wiring)
                signs = [sign for _, _, sign in wiring.arrows]
                lengths.setdefault((len(signs), "?" in signs), []).append(wiring)
            else:
                caught(NoOdd, lambda: no_rest(wiring))
        self.assertEqual(sorted(lengths), [(length, free) for length in range(1, 7) for free in (False, True)])

    def test_a_ring_among_others(self):
        wiring = wired("a:1 b:1 c:1 d:1 e:1 f:1; a + d; d - b; b - e; e + c; c - f; f + a")
        self.check(wiring)
        self.check(wiring.mirrored())
        caught(NoOdd, lambda: no_rest(wiring.with_arrow("f", "a", "-")))
        self.check(wiring.with_arrow("f", "a", "?"))
        self.check(wiring.with_arrow("f", "a", "-").with_arrow("b", "e", "?"))
        self.check(wiring.with_arrow("d", "d", "+").with_arrow("a", "b", "+"))

    def test_an_arrow_from_each_part_to_each(self):
        for sign in "-?":
            self.check(full_wiring(sign))
            self.check(full_wiring(sign, 3))
        caught(NoOdd, lambda: no_rest(full_wiring("+")))

    def test_no_odd(self):
        for text in ("a:1", "a:3; a + a", "a:1 b:2; a ? b", "a:1 b:1; a - b; b - a"):
            error = caught(NoOdd, lambda: no_rest(Wiring.read(text)))
            self.assertEqual(vars(error), {})


if __name__ == "__main__":
    unittest.main()
