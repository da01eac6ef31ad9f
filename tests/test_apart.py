"""Points 43 and 44: rings without common parts, and how many states of rest there can be."""

import itertools
import math
import unittest

from surerests.numbers import apart, least_meeting, many_rests, most_rests
from surerests.rules import Rules, lowest_rules
from surerests.wirings import Wiring
from tests.samples import fits, full_wiring, long_rings, rests_of, rings_with, rules_of, samples, small_wirings, wired
from tests.samples import wirings_of


def ring_room(wiring, ring):
    return 1 + min(wiring.top(name) for name in ring)


def product_of(wiring, rings):
    return math.prod(ring_room(wiring, ring) for ring in rings)


def greatest_product(wiring, rings, used=()):
    """The greatest product of rooms of such rings, over all lists of them."""
    if not rings:
        return 1
    without = greatest_product(wiring, rings[1:], used)
    if any(name in used for name in rings[0]):
        return without
    return max(without, ring_room(wiring, rings[0]) * greatest_product(wiring, rings[1:], (*used, *rings[0])))


def mixed_wirings():
    """Wirings of three and four parts with different tops and some arrows each."""
    for tops in ({"a": 3, "b": 3, "c": 1}, {"a": 1, "b": 3, "c": 3}, {"a": 3, "b": 2, "c": 2, "d": 3},
                 {"a": 1, "b": 3, "c": 3, "d": 3}, {"a": 1, "b": 1, "c": 1, "d": 1}):
        pairs = list(itertools.product(sorted(tops), repeat=2))
        for at in range(50):
            signs = ["  +-? "[(at * 5 + place * place * (at + 2)) % 6] for place in range(len(pairs))]
            yield Wiring(tops, [(*pair, sign) for pair, sign in zip(pairs, signs) if sign != " "])


class TestApart(unittest.TestCase):
    def check(self, wiring):
        told = apart(wiring)
        self.assertIsInstance(told, list)
        rings = rings_with(wiring, 0)
        self.assertTrue(all(ring in rings for ring in told))
        self.assertEqual(told, sorted(told, key=lambda ring: (len(ring), ring)))
        names = [name for ring in told for name in ring]
        self.assertEqual(len(set(names)), len(names))
        self.assertEqual(apart(wiring=Wiring.read(str(wiring))), told)
        return product_of(wiring, told)

    def test_greatest_product(self):
        products = {}
        for wiring in [*small_wirings(), *samples(), *mixed_wirings(), *itertools.islice(long_rings(), 0, None, 5)]:
            product = self.check(wiring)
            self.assertEqual(product, greatest_product(wiring, rings_with(wiring, 0)), str(wiring))
            products[product] = True
        self.assertGreaterEqual(sorted(products), [1, 2, 3, 4, 6, 8])

    def test_single_wirings(self):
        for text, told in (
            # A longer ring is better than a shorter one.
            ("a:3 b:3 c:3 d:1; a + b; b + c; c + a; a + d; d + a", [("a", "b", "c")]),
            ("a:1 b:2 c:2; a + b; b + a; b - c; c - b", [("b", "c")]),
            # More rings are better than one with more room, and so is one more on the side.
            ("a:2 b:2 c:1 d:1 e:1; a + b; b + a; a + c; c + a; b + d; d + b", [("a", "c"), ("b", "d")]),
            ("a:2 b:1 c:1; a + b; b + a; b + c; c + b; c + c", [("c",), ("a", "b")]),
            # In order of lengths first.
            ("a:1 b:1 c:1; a + b; b + a; c + c", [("c",), ("a", "b")]),
            ("a:1 b:1 c:1 d:1; a - c; c - a; b ? d; d + b", [("a", "c"), ("b", "d")]),
            # Rings that can be odd alone do not count.
            ("a:3 b:3 c:1; a + b; b - a; a - c; c - a", [("a", "c")]),
        ):
            self.assertEqual(apart(wired(text)), told, text)

    def test_fewer_rings_are_as_good(self):
        wiring = wired("a:3 b:3 c:1 d:1; a + b; b + a; a + c; c + a; b - d; d - b")
        self.assertEqual(self.check(wiring), 4)
        self.assertIn(apart(wiring), ([("a", "b")], [("a", "c"), ("b", "d")]))
        # With one part less, the one ring of more room is better than either of the others.
        self.assertEqual(apart(wiring.only(["a", "b", "c"])), [("a", "b")])
        # Rings of the rooms 3 and 4 are better than others of which two have the room 2.
        wiring = wired("a:3 b:3 c:2 d:1 e:1; a + b; b + a; c + c; a + d; d + a; c + e; e + c; b + d; d + b")
        self.assertEqual(apart(wiring), [("c",), ("a", "b")])

    def test_no_ring_that_can_be_even(self):
        for text in ("a:1", "a:3 b:2; a ? b", "a:1 b:1; a + b; b - a", "a:2; a - a"):
            self.assertEqual(apart(Wiring.read(text)), [])

    def test_an_arrow_from_each_part_to_each(self):
        loops = [(name,) for name in "abcdef"]
        self.assertEqual(apart(full_wiring("+")), loops)
        self.assertEqual(apart(full_wiring("?")), loops)
        self.assertEqual(self.check(full_wiring("-")), 8)
        self.assertEqual(self.check(full_wiring("-", 3)), 16)
        self.assertEqual(apart(full_wiring("+", 3)), loops[:4])

    def test_the_list_is_new(self):
        wiring = full_wiring("+", 3)
        apart(wiring).pop()
        self.assertEqual(len(apart(wiring)), 4)


class TestManyRests(unittest.TestCase):
    def check(self, wiring):
        rules = many_rests(wiring)
        self.assertIsInstance(rules, Rules)
        self.assertEqual(rules.wiring, wiring)
        for name in wiring.parts:
            signs = [wiring.sign(source, name) for source in wiring.sources(name)]
            self.assertTrue(len(signs) > 3 or fits(signs, rules.table(name)))
        self.assertGreaterEqual(len(rests_of(rules)), product_of(wiring, apart(wiring)), str(wiring))
        self.assertEqual(many_rests(wiring=Wiring.read(str(wiring))), rules)

    def test_rules_with_many_states_of_rest(self):
        for wiring in [*small_wirings(), *samples(), *mixed_wirings(), *itertools.islice(long_rings(), 0, None, 3)]:
            self.check(wiring)

    def test_rings_of_different_rooms(self):
        wiring = wired("a:3 b:2 c:1 d:3; a + a; b - c; c - b; d ? a; a - d; d + d")
        self.assertEqual(apart(wiring), [("a",), ("d",), ("b", "c")])
        self.check(wiring)
        self.assertGreaterEqual(len(rests_of(many_rests(wiring))), 32)

    def test_one_where_no_ring_can_be_even(self):
        wiring = wired("a:1 b:2; a + b; b - a")
        self.check(wiring)
        self.assertGreaterEqual(len(rests_of(many_rests(wiring))), 1)
        self.assertEqual(len(rests_of(lowest_rules(wiring))), 1)

    def test_an_arrow_from_each_part_to_each(self):
        for sign in "+-?":
            self.check(full_wiring(sign))
            self.check(full_wiring(sign, 3))


class TestMostRests(unittest.TestCase):
    def test_both_numbers(self):
        for wiring in [*small_wirings(), *samples(), *mixed_wirings(), *map(full_wiring, "+-?")]:
            told = most_rests(wiring)
            self.assertIsInstance(told, tuple)
            room = math.prod(1 + wiring.top(name) for name in least_meeting(wiring))
            self.assertEqual(told, (product_of(wiring, apart(wiring)), room))
            self.assertLessEqual(told[0], told[1])
            self.assertEqual(most_rests(wiring=wiring), told)

    def test_the_greatest_number_over_all_rules(self):
        equal = 0
        for wiring in [*wirings_of({"a": 1}), *wirings_of({"a": 2}), *wirings_of({"a": 3}),
                       *wirings_of({"a": 1, "b": 1})]:
            most = max(len(rests_of(rules)) for rules in rules_of(wiring))
            one, other = most_rests(wiring)
            self.assertTrue(one <= most <= other, str(wiring))
            equal = equal + (one == other)
        self.assertGreater(equal, 100)

    def test_no_rules_have_more(self):
        for wiring in [*small_wirings(), *wirings_of({"a": 2, "b": 2}, 3), *mixed_wirings()]:
            if len(wiring.parts) < 4:
                for rules in itertools.islice(rules_of(wiring, 12), 20) if is_quick(wiring) else []:
                    self.assertLessEqual(len(rests_of(rules)), most_rests(wiring)[1])

    def test_single_wirings(self):
        for text, told in (
            ("a:1", (1, 1)), ("a:3; a + a", (4, 4)), ("a:3; a - a", (1, 1)), ("a:3 b:1; a + b; b + a", (2, 2)),
            ("a:1 b:1 c:1; a - b; b - a; b - c; c - b; a - c; c - a", (2, 4)),
        ):
            self.assertEqual(most_rests(wired(text)), told, text)
        self.assertEqual([most_rests(full_wiring(sign)) for sign in "+-?"], [(64, 64), (8, 32), (64, 64)])


def is_quick(wiring):
    """True if there are not too many tables for a part to make them all."""
    choices = [math.prod(wiring.top(source) + 1 for source in wiring.sources(name)) for name in wiring.parts]
    return all((wiring.top(name) + 1) ** count <= 5000 for name, count in zip(wiring.parts, choices))


if __name__ == "__main__":
    unittest.main()
