"""Points 3, 41 and 42: sets of parts that meet all rings that can be even."""

import itertools
import unittest

from surerests.errors import BadSet
from surerests.numbers import least_meeting, meets
from surerests.rules import Rules
from surerests.wirings import Wiring
from tests.samples import ODD_VALUES, all_sets, caught, full_wiring, long_rings, next_of, rings_with, rules_of, samples
from tests.samples import small_wirings, tables_told, wired, wirings_of


def meets_all(wiring, names):
    return all(any(name in names for name in ring) for ring in rings_with(wiring, 0))


def room_of(wiring, names):
    room = 1
    for name in names:
        room = room * (wiring.top(name) + 1)
    return room


def least_of(wiring):
    """The first set of least room that meets all rings that can be even, by the point."""
    rings = rings_with(wiring, 0)
    found = [names for names in all_sets(wiring) if all(set(names) & set(ring) for ring in rings)]
    least = min(room_of(wiring, names) for names in found)
    return [names for names in found if room_of(wiring, names) == least][0]


class TestMeets(unittest.TestCase):
    def test_all_sets(self):
        wirings = [
            *samples(), *itertools.islice(small_wirings(), 0, None, 3), full_wiring("-"),
            wired("a:2 b:1 c:1; a + b; b + a; b + c; c - a; c - c"),
        ]
        for wiring in wirings:
            for names in all_sets(wiring):
                self.assertIs(meets(wiring, names), meets_all(wiring, names), (str(wiring), names))

    def test_single_sets(self):
        wiring = wired("a:1 b:1 c:1 d:1; a + b; b + a; c - c; c ? d; d - c")
        for names, told in (((), False), (("a",), False), (("c",), False), (("a", "c"), True), (("b", "d"), True),
                            (("a", "b"), False), (("a", "b", "c", "d"), True)):
            self.assertIs(meets(wiring, names), told, names)
            self.assertIs(meets(names=names, wiring=wiring), told)
        self.assertIs(meets(wired("a:1 b:1; a + b; b - a"), ()), True)

    def test_an_arrow_from_each_part_to_each(self):
        for sign, told in (("+", [6]), ("?", [6]), ("-", [5, 6])):
            wiring = full_wiring(sign)
            for names in all_sets(wiring):
                self.assertIs(meets(wiring, names), len(names) in told, names)

    def test_bad_sets(self):
        wiring = wired("a:1 b:1 c:1; a + b; b + a")
        more = [
            ["a"], ["a", "b"], "a", "abc", ("a", "a"), ("a", "b", "b"), ("b", "a"), ("a", "c", "b"), ("d",), ("a", "d"),
            ("",), ("a", None), ("a", 1), ("a", ["b"]), (("a",),), ("a", ("b",)), ("A",), ("ab",), {"a": 1}, ({},),
            ("a", "b", "c", "d"), ("a", "b", "c", "c"), (True, "a"),
        ]
        for value in ODD_VALUES + more:
            if value != ():
                with self.subTest(value=value):
                    self.assertIs(caught(BadSet, lambda: meets(wiring, value)).value, value)
                    self.assertIs(caught(BadSet, lambda: meets(wiring=wiring, names=value)).value, value)

    def test_bad_sets_where_no_ring_can_be_even(self):
        for value in (None, ["a"], ("b", "a"), ("c",), ("a", "a")):
            self.assertIs(caught(BadSet, lambda: meets(wired("a:1 b:1"), value)).value, value)


class TestLeastMeeting(unittest.TestCase):
    def test_first_of_least_room(self):
        for wiring in [*small_wirings(), *samples(), *itertools.islice(long_rings(), 0, None, 5)]:
            self.assertEqual(least_meeting(wiring), least_of(wiring), str(wiring))
            self.assertIsInstance(least_meeting(wiring), tuple)

    def test_first_of_least_room_with_other_tops(self):
        for tops in ({"a": 3, "b": 1, "c": 1}, {"a": 1, "b": 2, "c": 3}, {"a": 3, "b": 2, "c": 1, "d": 1}):
            parts = sorted(tops)
            pairs = list(itertools.product(parts, repeat=2))
            for at in range(60):
                signs = [" +-?  "[(at * 7 + place * place * (at + 3)) % 6] for place in range(len(pairs))]
                wiring = Wiring(tops, [(*pair, sign) for pair, sign in zip(pairs, signs) if sign != " "])
                self.assertEqual(least_meeting(wiring), least_of(wiring), str(wiring))

    def test_a_larger_set_of_least_room(self):
        # (a) and (b, c) meet both rings and have the room 4, so the shorter one comes first.
        wiring = wired("a:3 b:1 c:1; a + b; b + a; a - c; c - a")
        self.assertEqual(least_meeting(wiring), ("a",))
        # As before, but the shorter one would come last by its name.
        wiring = wired("a:1 b:1 c:3; a + c; c + a; b - c; c - b")
        self.assertEqual([room_of(wiring, ("a", "b")), room_of(wiring, ("c",))], [4, 4])
        self.assertEqual(least_meeting(wiring), ("c",))
        # (a, d) and (b, c) alone meet all rings with the least room.
        wiring = wired("a:1 b:1 c:1 d:1; a + b; b + a; a + c; c + a; b - d; d - b; c - d; d - c")
        self.assertIs(meets(wiring, ("b", "c")), True)
        self.assertEqual(least_meeting(wiring), ("a", "d"))
        # Both sets (a) and (b) meet the ring, and b has less room.
        self.assertEqual(least_meeting(wired("a:3 b:2; a + b; b + a")), ("b",))
        # Here three parts have less room than two.
        wiring = wired("a:3 b:3 c:1 d:1 e:1; a + c; c + a; a + d; d + a; b + e; e + b; b + d; d + b; a + e; e + a")
        self.assertEqual([room_of(wiring, ("a", "b")), room_of(wiring, ("c", "d", "e"))], [16, 8])
        self.assertIs(meets(wiring, ("a", "b")), True)
        self.assertEqual(least_meeting(wiring), ("c", "d", "e"))

    def test_no_ring_that_can_be_even(self):
        for text in ("a:1", "a:3 b:2; a ? b", "a:1 b:1; a + b; b - a", "a:2; a - a"):
            self.assertEqual(least_meeting(Wiring.read(text)), ())
            self.assertEqual(least_meeting(wiring=Wiring.read(text)), ())

    def test_an_arrow_from_each_part_to_each(self):
        self.assertEqual(least_meeting(full_wiring("+")), tuple("abcdef"))
        self.assertEqual(least_meeting(full_wiring("?")), tuple("abcdef"))
        self.assertEqual(least_meeting(full_wiring("-")), tuple("abcde"))
        self.assertEqual(least_meeting(full_wiring("-", 3)), tuple("abc"))

    def test_the_other_parts_have_at_most_one_state_of_rest(self):
        for wiring in itertools.islice(small_wirings(), 0, None, 2):
            held = least_meeting(wiring)
            for rules in rules_of(wiring, 12):
                self.check_held(rules, held)
        wirings = [wiring for wiring in wirings_of({"a": 1, "b": 1}) if least_meeting(wiring)]
        self.assertGreater(len(wirings), 50)

    def check_held(self, rules, held):
        wiring = rules.wiring
        tables = tables_told(rules)
        seen = {}
        for state in wiring.states():
            after = next_of(wiring, tables, state)
            rows = list(zip(wiring.parts, state, after))
            if all(level == told for name, level, told in rows if name not in held):
                levels = tuple(level for name, level, _ in rows if name in held)
                self.assertNotIn(levels, seen)
                seen[levels] = state

    def test_rules_of_the_full_room(self):
        wiring = wired("a:3 b:1; a + a; b ? b; a + b")
        rules = Rules(wiring, {
            "a": {(level,): level for level in range(4)},
            "b": {(level, told): told for level in range(4) for told in range(2)},
        })
        self.assertEqual(least_meeting(wiring), ("a", "b"))
        self.check_held(rules, ("a", "b"))


if __name__ == "__main__":
    unittest.main()
