"""Points 7 and 20 to 22: rings, and which of them can be even or odd."""

import unittest

from surerests.errors import BadRing
from surerests.rings import all_rings, can_be_even, can_be_odd, check_ring, even_ring, odd_ring
from surerests.rings import ring_arrows
from surerests.wirings import Wiring
from tests.samples import ODD_VALUES, caught, full_wiring, parities_of, rings_of, samples, small_wirings, wired


class TestAllRings(unittest.TestCase):
    def test_no_rings(self):
        for text in ("a:1", "a:1 b:1", "a:1 b:1 c:1; a + b; a + c; b ? c", "a:1 b:1 c:1; c + b; b + a; c - a"):
            with self.subTest(text):
                self.assertEqual(all_rings(wired(text)), [])

    def test_loops_alone(self):
        self.assertEqual(all_rings(wired("a:1 b:1 c:1; a + b; a - a; c ? c")), [("a",), ("c",)])
        self.assertEqual(all_rings(wired("a:1; a + a")), [("a",)])

    def test_shorter_rings_first(self):
        wiring = wired("a:1 b:1 c:1; a + b; a + c; b + c; c + a; c - c; b - a")
        self.assertEqual(all_rings(wiring), [("c",), ("a", "b"), ("a", "c"), ("a", "b", "c")])

    def test_both_ways_around(self):
        wiring = wired("a:1 b:1 c:1; a + b; a + c; b + a; b + c; c + a; c + b")
        told = [("a", "b"), ("a", "c"), ("b", "c"), ("a", "b", "c"), ("a", "c", "b")]
        self.assertEqual(all_rings(wiring), told)

    def test_a_ring_begins_with_the_least_part_by_name(self):
        wiring = Wiring({"b": 1, "a1": 1, "ab": 1, "a": 3}, [("b", "a1", "+"), ("a1", "ab", "+"), ("ab", "b", "-")])
        self.assertEqual(all_rings(wiring), [("a1", "ab", "b")])
        for ring in all_rings(full_wiring("+")):
            self.assertEqual(ring[0], min(ring))

    def test_an_arrow_from_each_of_six_parts_to_each(self):
        for sign in "+-?":
            rings = all_rings(full_wiring(sign))
            self.assertEqual(len(rings), 415)
            self.assertEqual(rings, rings_of(full_wiring(sign)))
            self.assertEqual(rings, sorted(rings, key=lambda ring: (len(ring), ring)))

    def test_rings_of_many_wirings(self):
        for wiring in [*small_wirings(), *samples()]:
            self.assertEqual(all_rings(wiring), rings_of(wiring), str(wiring))

    def test_the_list_is_new(self):
        wiring = full_wiring("+", 3)
        told = all_rings(wiring=wiring)
        told.pop()
        self.assertEqual(all_rings(wiring), rings_of(wiring))


class TestCheckRing(unittest.TestCase):
    def test_all_rows_of_parts(self):
        wirings = [
            wired("a:1 b:1 c:1; a + b; b - a; b ? c; c + a; c + c"),
            wired("a:1 b:1 c:1; a + c; c + b; b + a; b + b"),
            full_wiring("?", 3).only(["a", "b", "c"]),
        ]
        for wiring in wirings:
            rows = [()]
            for _ in range(4):
                rows.extend(row + (name,) for row in list(rows) for name in ("a", "b", "c", "d"))
            rings = rings_of(wiring)
            for row in rows:
                self.assertIs(check_ring(wiring, row), row in rings, (str(wiring), row))
                self.assertIs(check_ring(wiring, list(row)), False)

    def test_rings_of_six_parts(self):
        wiring = full_wiring("-")
        for ring in all_rings(wiring):
            self.assertIs(check_ring(wiring, ring), True)
            if len(ring) > 1:
                self.assertIs(check_ring(wiring, ring[1:] + ring[:1]), False)
        thin = wiring.without_arrow("c", "d")
        self.assertIs(check_ring(thin, ("a", "b", "c", "d")), False)
        self.assertIs(check_ring(thin, ("a", "b", "d", "c")), True)
        self.assertIs(check_ring(thin, ("a", "c", "b", "d")), True)
        self.assertIs(check_ring(thin, ("a", "d", "b", "c")), True)
        self.assertIs(check_ring(thin, ("b", "c", "a")), False)

    def test_an_arrow_back_is_needed(self):
        self.assertIs(check_ring(wired("a:1 b:1; a + b"), ("a", "b")), False)
        self.assertIs(check_ring(wired("a:1 b:1; b + a"), ("a", "b")), False)
        self.assertIs(check_ring(wired("a:1 b:1; a + b; b + a"), ("a", "b")), True)

    def test_any_values(self):
        wirings = [full_wiring("+"), wired("a:1")]
        more = ["a", ["a"], ("a", None), ("a", ["b"]), (("a",),), ("a", 1), ({}, "a"), ("A",), ("a", "a"), ("", "a")]
        for wiring in wirings:
            for value in ODD_VALUES + more:
                with self.subTest(value=value):
                    self.assertIs(check_ring(wiring=wiring, value=value), False)


class TestEvenAndOdd(unittest.TestCase):
    def test_loops(self):
        for sign, told in (("+", (True, False)), ("-", (False, True)), ("?", (True, True))):
            wiring = Wiring({"a": 2}, [("a", "a", sign)])
            self.assertEqual((can_be_even(wiring, ("a",)), can_be_odd(wiring, ("a",))), told)

    def test_rings_of_two_parts(self):
        for text, told in (
            ("a:1 b:1; a + b; b + a", (True, False)),
            ("a:1 b:1; a - b; b - a", (True, False)),
            ("a:1 b:1; a + b; b - a", (False, True)),
            ("a:1 b:1; a ? b; b - a", (True, True)),
            ("a:1 b:1; a ? b; b ? a", (True, True)),
            ("a:1 b:1; a + b; b - a; a - a; b + b", (False, True)),
        ):
            wiring = wired(text)
            found = (can_be_even(wiring, ("a", "b")), can_be_odd(wiring, ("a", "b")))
            self.assertEqual(found, told, text)

    def test_by_all_signs_in_the_place_of_the_unknown_ones(self):
        for wiring in small_wirings():
            for ring in all_rings(wiring):
                parities = parities_of(wiring, ring)
                self.assertIs(can_be_even(wiring, ring), 0 in parities, (str(wiring), ring))
                self.assertIs(can_be_odd(wiring, ring), 1 in parities, (str(wiring), ring))

    def test_both_exactly_if_there_is_an_unknown_sign(self):
        for wiring in small_wirings():
            for ring in all_rings(wiring):
                even, odd = can_be_even(wiring=wiring, ring=ring), can_be_odd(wiring=wiring, ring=ring)
                self.assertTrue(even or odd)
                signs = [wiring.sign(*pair) for pair in zip(ring, ring[1:] + ring[:1])]
                self.assertEqual(even and odd, "?" in signs)

    def test_bad_rings(self):
        wiring = wired("a:1 b:1 c:1; a + b; b - a; b + c")
        more = [["a", "b"], ("b", "a"), ("a",), ("a", "b", "c"), ("b", "c"), ("a", "b", "a", "b"), ("a", ["b"]), "ab"]
        for value in ODD_VALUES + more:
            for call in (can_be_even, can_be_odd):
                with self.subTest(call=call.__name__, value=value):
                    self.assertIs(caught(BadRing, lambda: call(wiring, value)).value, value)
                    self.assertIs(caught(BadRing, lambda: call(wiring=wiring, ring=value)).value, value)


class TestFirstRings(unittest.TestCase):
    def test_none(self):
        wiring = wired("a:1 b:1; a + b")
        self.assertIs(even_ring(wiring), None)
        self.assertIs(odd_ring(wiring), None)
        self.assertIs(even_ring(wired("a:1 b:1; a - a; a + b; b - b")), None)
        self.assertIs(odd_ring(wired("a:1 b:1; a - b; b - a; b + b")), None)

    def test_the_first_one_in_order(self):
        wiring = wired("a:1 b:1 c:1; a + b; b - a; a - c; c - a; b + c; c + b")
        self.assertEqual(even_ring(wiring=wiring), ("a", "c"))
        self.assertEqual(odd_ring(wiring=wiring), ("a", "b"))
        self.assertEqual(odd_ring(wiring.without_arrow("b", "a")), ("a", "b", "c"))
        self.assertEqual(even_ring(full_wiring("-")), ("a", "b"))
        self.assertEqual(odd_ring(full_wiring("-")), ("a",))
        self.assertEqual(even_ring(full_wiring("?").with_arrow("a", "a", "-")), ("b",))

    def test_by_all_rings(self):
        for wiring in small_wirings():
            found = [(ring, parities_of(wiring, ring)) for ring in rings_of(wiring)]
            even = [ring for ring, parities in found if 0 in parities]
            odd = [ring for ring, parities in found if 1 in parities]
            self.assertEqual(even_ring(wiring), even[0] if even else None, str(wiring))
            self.assertEqual(odd_ring(wiring), odd[0] if odd else None, str(wiring))


class TestArrowsAround(unittest.TestCase):
    def test_arrows_of_each_parity(self):
        for wiring in [*small_wirings(), *samples()]:
            for ring in all_rings(wiring):
                for parity in parities_of(wiring, ring):
                    arrows = ring_arrows(wiring, ring, parity)
                    self.assertEqual([arrow[0] for arrow in arrows], list(ring))
                    self.assertEqual([arrow[1] for arrow in arrows], list(ring[1:] + ring[:1]))
                    self.assertEqual([arrow[2] for arrow in arrows].count("-") % 2, parity)
                    for source, target, sign in arrows:
                        self.assertIn(sign, "+-")
                        self.assertIn(wiring.sign(source, target), (sign, "?"))


if __name__ == "__main__":
    unittest.main()
