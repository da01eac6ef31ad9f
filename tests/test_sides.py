"""Points 29 and 30: right sides."""

import itertools
import unittest

from surerests.errors import HasOdd
from surerests.rings import knots
from surerests.sides import check_sides, sides_of
from surerests.wirings import Wiring
from tests.samples import ODD_VALUES, caught, full_wiring, parities_of, rings_of, samples, small_wirings, wired


def are_right(wiring, sides):
    """Point 29, for sides 0 or 1 of all parts: over all pairs of parts that have a ring of arrows in common."""
    for source, target, sign in wiring.arrows:
        if any(source in knot and target in knot for knot in knots(wiring)):
            if sign != ("+" if sides[source] == sides[target] else "-"):
                return False
    return True


def all_sides(wiring):
    return [dict(zip(wiring.parts, row)) for row in itertools.product(range(2), repeat=len(wiring.parts))]


class TestCheckSides(unittest.TestCase):
    def test_small_wirings(self):
        for text, told in (
            ("a:1 b:1", [(0, 0), (0, 1), (1, 0), (1, 1)]),
            ("a:1 b:1; a + b", [(0, 0), (0, 1), (1, 0), (1, 1)]),
            ("a:1 b:1; a ? b; b + b", [(0, 0), (0, 1), (1, 0), (1, 1)]),
            ("a:1 b:1; a + b; b + a", [(0, 0), (1, 1)]),
            ("a:1 b:1; a - b; b - a", [(0, 1), (1, 0)]),
            ("a:1 b:1; a + b; b - a", []),
            ("a:1 b:1; a + b; b ? a", []),
            ("a:1 b:1; a - a", []),
            ("a:1 b:1; a ? a", []),
            ("a:1 b:1; a + b; b + a; b - b", []),
        ):
            wiring = wired(text)
            found = [tuple(sides.values()) for sides in all_sides(wiring) if check_sides(wiring, sides)]
            self.assertEqual(found, told, text)

    def test_all_sides_of_many_wirings(self):
        for wiring in [*small_wirings(), *samples()]:
            for sides in all_sides(wiring):
                self.assertIs(check_sides(wiring, sides), are_right(wiring, sides), (str(wiring), sides))

    def test_a_part_less_or_more(self):
        wiring = wired("a:1 b:1 c:1; a + b; b + a")
        for names in ((), ("a",), ("a", "b"), ("b", "c"), ("a", "b", "c", "d"), ("a", "b", "d"), ("", "a", "b", "c"),
                      ("A", "b", "c"), ("aa", "b", "c"), ("a b c",)):
            self.assertIs(check_sides(wiring, dict.fromkeys(names, 0)), False, names)
        self.assertIs(check_sides(wiring, dict.fromkeys("abc", 0)), True)

    def test_other_values(self):
        for wiring in (wired("a:1 b:1; a + b; b + a"), wired("a:1 b:1; a - b; b - a"), wired("a:1 b:1")):
            for value in [*ODD_VALUES, 2, 3, -2, "0", (0,), [1]]:
                for sides in ({"a": value, "b": 0}, {"a": 1, "b": value}, {"a": value, "b": value}):
                    with self.subTest(str(wiring), sides=sides):
                        self.assertIs(check_sides(wiring, sides), False)

    def test_true_and_false_are_not_sides(self):
        wiring = wired("a:1 b:1; a - b; b - a")
        self.assertIs(check_sides(wiring, {"a": False, "b": True}), False)
        self.assertIs(check_sides(wiring, {"a": 0, "b": True}), False)
        self.assertIs(check_sides(wiring, {"a": False, "b": 1}), False)
        self.assertIs(check_sides(sides={"b": 1, "a": 0}, wiring=wiring), True)


class TestSidesOf(unittest.TestCase):
    def test_small_wirings(self):
        for text, told in (
            ("a:1 b:1", {"a": 0, "b": 0}),
            ("a:1 b:1; a - b", {"a": 0, "b": 0}),
            ("a:1 b:1; a ? b", {"a": 0, "b": 0}),
            ("a:1 b:1; a - b; b - a", {"a": 0, "b": 1}),
            ("a:1 b:1 c:1; a - b; b + c; c - a", {"a": 0, "b": 1, "c": 1}),
            ("a:1 b:1 c:1; c - b; b - c; b ? a", {"a": 0, "b": 0, "c": 1}),
            ("a:1 b:1 c:1; c - b; b - c; c - a", {"a": 0, "b": 0, "c": 1}),
        ):
            self.assertEqual(sides_of(wired(text)), told, text)
            self.assertEqual(list(sides_of(wiring=wired(text))), sorted(told))

    def test_right_sides_exactly_if_no_ring_can_be_odd(self):
        for wiring in [*small_wirings(), *samples()]:
            odd = [ring for ring in rings_of(wiring) if 1 in parities_of(wiring, ring)]
            right = [sides for sides in all_sides(wiring) if are_right(wiring, sides)]
            self.assertEqual(odd == [], right != [], str(wiring))
            if odd:
                self.assertEqual(caught(HasOdd, lambda: sides_of(wiring)).value, odd[0])
            else:
                told = [sides for sides in right if all(sides[knot[0]] == 0 for knot in knots(wiring))]
                self.assertEqual([sides_of(wiring)], told)
                self.assertIs(check_sides(wiring, sides_of(wiring)), True)

    def test_long_rings(self):
        arrows = [("a", "f", "-"), ("f", "b", "+"), ("b", "e", "-"), ("e", "c", "-"), ("c", "d", "-"), ("d", "a", "+")]
        wiring = Wiring(dict.fromkeys("abcdef", 1), arrows)
        self.assertEqual(sides_of(wiring), {"a": 0, "b": 1, "c": 1, "d": 0, "e": 0, "f": 1})
        self.assertEqual(sides_of(full_wiring("+")), dict.fromkeys("abcdef", 0))
        back = wiring.mirrored()
        self.assertEqual(sides_of(back), sides_of(wiring))

    def test_the_first_ring_that_can_be_odd(self):
        wiring = wired("a:1 b:1 c:1; a + b; b + c; c - a; b - a; c - c")
        self.assertEqual(caught(HasOdd, lambda: sides_of(wiring)).value, ("c",))
        wiring = wiring.without_arrow("c", "c")
        self.assertEqual(caught(HasOdd, lambda: sides_of(wiring)).value, ("a", "b"))
        wiring = wiring.without_arrow("b", "a")
        self.assertEqual(caught(HasOdd, lambda: sides_of(wiring)).value, ("a", "b", "c"))
        self.assertEqual(caught(HasOdd, lambda: sides_of(Wiring.read("a:1; a ? a"))).value, ("a",))

    def test_the_dict_is_new(self):
        wiring = wired("a:1 b:1; a - b; b - a")
        sides_of(wiring)["b"] = 0
        self.assertEqual(sides_of(wiring), {"a": 0, "b": 1})


if __name__ == "__main__":
    unittest.main()
