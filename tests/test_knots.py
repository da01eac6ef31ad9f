"""Points 23 and 24: orders of the parts, ways without rings, and knots."""

import itertools
import unittest

from surerests.errors import HasRing
from surerests.rings import all_rings, depth, knots, order_of
from surerests.wirings import Wiring
from tests.samples import caught, full_wiring, rings_of, samples, small_wirings, wired


def ringless_wirings():
    """Wirings of up to six parts without rings: arrows lead forward in some order of the parts."""
    for order in itertools.islice(itertools.permutations("abcdef"), 0, None, 31):
        pairs = list(itertools.combinations(order, 2))
        for step in (1, 2, 3, 5, 16):
            arrows = [(*pair, sign) for pair, sign in zip(pairs[step - 1::step], itertools.cycle("+-?"))]
            yield Wiring({name: 1 for name in order}, arrows)


def longest_way(wiring):
    """The greatest number of parts of a way, found among all rows of different parts."""
    found = 0
    for length in range(1, len(wiring.parts) + 1):
        for row in itertools.permutations(wiring.parts, length):
            if all(wiring.sign(source, target) is not None for source, target in zip(row, row[1:])):
                found = length
    return found


def reaches(wiring, source, target):
    """True if arrows lead from one part to the other, perhaps through others."""
    found = [source]
    for part in found:
        found.extend(arrow[1] for arrow in wiring.arrows if arrow[0] == part and arrow[1] not in found)
    return target in found


class TestOrder(unittest.TestCase):
    def test_small_orders(self):
        self.assertEqual(order_of(wired("a:1")), ("a",))
        self.assertEqual(order_of(wired("a:1 b:1; b + a")), ("b", "a"))
        self.assertEqual(order_of(wired("a:1 b:1 c:1; c + b; b ? a")), ("c", "b", "a"))
        self.assertEqual(order_of(wiring=wired("a:1 b:1 c:1; a + c; c - b; a + b")), ("a", "c", "b"))

    def test_sources_stand_before_each_part(self):
        for wiring in ringless_wirings():
            order = order_of(wiring)
            self.assertIsInstance(order, tuple)
            self.assertEqual(sorted(order), list(wiring.parts))
            for source, target, _ in wiring.arrows:
                self.assertLess(order.index(source), order.index(target))

    def test_an_order_exactly_if_there_is_no_ring(self):
        for wiring in small_wirings():
            rings = rings_of(wiring)
            if rings:
                self.assertEqual(caught(HasRing, lambda: order_of(wiring)).value, rings[0])
            else:
                order = order_of(wiring)
                self.assertTrue(all(order.index(source) < order.index(target) for source, target, _ in wiring.arrows))

    def test_the_first_ring(self):
        wiring = wired("a:1 b:1 c:1; a + b; b + a; c + a; b + c; c + c")
        self.assertEqual(caught(HasRing, lambda: order_of(wiring)).value, ("c",))
        self.assertEqual(caught(HasRing, lambda: order_of(wiring.without_arrow("c", "c"))).value, ("a", "b"))
        self.assertEqual(caught(HasRing, lambda: order_of(full_wiring("+"))).value, ("a",))
        self.assertEqual(caught(HasRing, lambda: order_of(wired("a:1; a - a"))).value, ("a",))


class TestDepth(unittest.TestCase):
    def test_small_depths(self):
        for text, told in (
            ("a:1", 1),
            ("a:1 b:3", 1),
            ("a:1 b:1; b - a", 2),
            ("a:1 b:1 c:1; b - a; c + a", 2),
            ("a:1 b:1 c:1; b - a; c + b", 3),
            ("a:1 b:1 c:1; b - a; c + b; c + a", 3),
            ("a:1 b:1 c:1 d:1; a + b; b + c; a ? d", 3),
            ("a:1 b:1 c:1 d:1 e:1 f:1; f + e; e + d; d + c; c + b; b + a", 6),
        ):
            self.assertEqual(depth(wired(text)), told, text)
            self.assertEqual(depth(wiring=wired(text).mirrored()), told, text)

    def test_the_longest_way(self):
        for wiring in ringless_wirings():
            self.assertEqual(depth(wiring), longest_way(wiring), str(wiring))

    def test_small_wirings(self):
        for wiring in small_wirings():
            rings = rings_of(wiring)
            if rings:
                self.assertEqual(caught(HasRing, lambda: depth(wiring)).value, rings[0])
            else:
                self.assertEqual(depth(wiring), longest_way(wiring), str(wiring))


class TestKnots(unittest.TestCase):
    def test_small_knots(self):
        for text, told in (
            ("a:1", [("a",)]),
            ("a:1; a + a", [("a",)]),
            ("a:1 b:1; b + a", [("b",), ("a",)]),
            ("a:1 b:1; a + b; b - a", [("a", "b")]),
            ("a:1 b:1 c:1; a + c; c + a; b ? a", [("b",), ("a", "c")]),
            ("a:1 b:1 c:1; c + a; b + c; a + b", [("a", "b", "c")]),
            ("a:1 b:1 c:1 d:1; c + d; d + c; a + b; b + a; d - a", [("c", "d"), ("a", "b")]),
        ):
            self.assertEqual(knots(wired(text)), told, text)

    def check_knots(self, wiring):
        found = knots(wiring)
        self.assertEqual(sorted(name for knot in found for name in knot), list(wiring.parts))
        home = {}
        for place, knot in enumerate(found):
            self.assertIsInstance(knot, tuple)
            self.assertEqual(list(knot), sorted(knot))
            for name in knot:
                home[name] = place
        for one, other in itertools.product(wiring.parts, repeat=2):
            together = reaches(wiring, one, other) and reaches(wiring, other, one)
            self.assertEqual(home[one] == home[other], together, (str(wiring), found))
        for source, target, _ in wiring.arrows:
            self.assertLessEqual(home[source], home[target], (str(wiring), found))

    def test_knots_and_their_order(self):
        for wiring in [*small_wirings(), *samples()]:
            self.check_knots(wiring)
        for wiring in ringless_wirings():
            self.check_knots(wiring)
            # Two arrows back make knots of several parts.
            first, second = wiring.parts[0], wiring.parts[3]
            self.check_knots(wiring.with_arrow(first, second, "+").with_arrow(second, first, "?"))

    def test_more_parts(self):
        self.assertEqual(knots(full_wiring("+")), [("a", "b", "c", "d", "e", "f")])
        around = wired("a:1 b:1 c:1 d:1 e:1 f:1; a + b; b + c; c + d; d + e; e + f; f - a")
        self.assertEqual(knots(around), [("a", "b", "c", "d", "e", "f")])
        self.assertEqual(all_rings(around), [("a", "b", "c", "d", "e", "f")])
        self.assertEqual(knots(around.without_arrow("f", "a")), [(name,) for name in "abcdef"])
        self.assertEqual(knots(around.without_arrow("f", "a").mirrored()), [(name,) for name in "fedcba"])
        self.assertEqual(knots(wiring=around.with_arrow("c", "a", "?").without_arrow("f", "a"))[0], ("a", "b", "c"))

    def test_the_list_is_new(self):
        wiring = wired("a:1 b:1; b + a")
        knots(wiring).reverse()
        self.assertEqual(knots(wiring), [("b",), ("a",)])


if __name__ == "__main__":
    unittest.main()
