"""Points 2 to 5, 10 and 14: what a wiring can be built from."""

import unittest

from surerests.errors import BadArrow, BadCount, BadName, BadTop
from surerests.wirings import Wiring
from tests.samples import ODD_VALUES, caught

TWO = {"a": 1, "b": 2}


def tops_of(*tops):
    return dict(zip("abcdefgh", tops))


class TestCounts(unittest.TestCase):
    def test_one_to_six_parts(self):
        for many in range(1, 7):
            tops = tops_of(*[1] * many)
            self.assertEqual(Wiring(tops, []).parts, tuple("abcdef"[:many]))

    def test_no_parts(self):
        self.assertEqual(caught(BadCount, lambda: Wiring({}, [])).count, 0)

    def test_too_many_parts(self):
        for many in (7, 8):
            tops = tops_of(*[1] * many)
            self.assertEqual(caught(BadCount, lambda: Wiring(tops, [])).count, many)

    def test_up_to_256_states(self):
        for tops in [(3, 3, 3, 3), (1, 1, 3, 3, 3), (1, 1, 1, 1, 3, 3), (2, 2, 2, 2, 2), (3, 3, 3, 2)]:
            with self.subTest(tops):
                self.assertEqual(Wiring(tops_of(*tops), []).top("a"), tops[0])

    def test_more_than_256_states(self):
        told = [
            ((3, 3, 3, 3, 1), 512),
            ((2, 2, 2, 2, 3), 324),
            ((1, 2, 2, 2, 2, 1), 324),
            ((1, 1, 1, 2, 2, 3), 288),
            ((3, 3, 3, 3, 3, 3), 4096),
            ((2, 2, 2, 2, 2, 2), 729),
        ]
        for tops, count in told:
            with self.subTest(tops):
                self.assertEqual(caught(BadCount, lambda: Wiring(tops_of(*tops), [])).count, count)


class TestNames(unittest.TestCase):
    def test_names(self):
        for name in ("a", "z", "a1", "zzzzzz", "a99999", "abcdef"):
            self.assertEqual(Wiring({name: 1}, []).parts, (name,))

    def test_bad_names(self):
        for name in ("", "A", "1", "_", "a_", "a b", "abcdefg", "a\n", "\n", "a:1", "+", "?", "a-b", "aB"):
            with self.subTest(name):
                self.assertEqual(caught(BadName, lambda: Wiring({name: 1}, [])).name, name)

    def test_first_bad_name_in_ascending_order(self):
        tops = {"b": 1, "z-": 1, "a": 1, "A": 1, "0": 1, "~": 1}
        self.assertEqual(caught(BadName, lambda: Wiring(tops, [])).name, "0")
        self.assertEqual(caught(BadName, lambda: Wiring({"c-": 1, "b": 1, "b-": 1}, [])).name, "b-")
        self.assertEqual(caught(BadName, lambda: Wiring({"b-": 1, "b": 1, "c-": 1}, [])).name, "b-")


class TestTops(unittest.TestCase):
    def test_tops(self):
        for top in (1, 2, 3):
            self.assertEqual(Wiring({"a": top}, []).top("a"), top)

    def test_bad_tops(self):
        for top in [0, *ODD_VALUES, "2", (1,), [[2]], 5, -3, -(10 ** 40)]:
            with self.subTest(top):
                self.assertIs(caught(BadTop, lambda: Wiring({"a": top}, [])).value, top)
                self.assertIs(caught(BadTop, lambda: Wiring({"a": 1, "b": 3, "c": top}, [])).value, top)

    def test_true_is_not_a_top(self):
        self.assertIs(caught(BadTop, lambda: Wiring({"a": 2, "b": True}, [])).value, True)

    def test_first_bad_top_in_ascending_order_of_the_parts(self):
        self.assertEqual(caught(BadTop, lambda: Wiring({"c": 7, "b": 9, "a": 1}, [])).value, 9)
        self.assertEqual(caught(BadTop, lambda: Wiring({"a": None, "b": 0}, [])).value, None)


class TestArrows(unittest.TestCase):
    def test_each_arrow_alone(self):
        for source in TWO:
            for target in TWO:
                for sign in "+-?":
                    arrow = (source, target, sign)
                    self.assertEqual(Wiring(TWO, [arrow]).arrows, (arrow,))

    def test_all_arrows_at_once(self):
        arrows = [(source, target, "-") for source in "abcdef" for target in "abcdef"]
        wiring = Wiring(tops_of(1, 1, 1, 1, 1, 1), arrows)
        self.assertEqual(wiring.arrows, tuple(arrows))

    def test_values_that_are_no_arrows(self):
        near = [
            ("a", "b"),
            ("a", "b", "+", "+"),
            ("a", "b", "*"),
            ("a", "b", ""),
            ("a", "b", "+-"),
            ("a", "b", "+-?"),
            ("a", "b", " +"),
            ("a", "c", "+"),
            ("c", "a", "+"),
            ("", "a", "+"),
            ("a", "", "+"),
            ("a", "ab", "+"),
            ("+", "a", "b"),
            ("a", "b", ["+"]),
            ("a", "b", ("+",)),
            ("a", "b", 1),
            ("a", ["b"], "+"),
            (["a"], "b", "+"),
            ({}, {}, {}),
            ([], [], []),
            (None, "b", "+"),
            ("a", True, "+"),
            ("a", "b", None),
            ("a", "b", {"+": 1}),
            ((("a", "b", "+"),), "b", "+"),
            [("a", "b", "+")],
            ["a", "b", "+"],
            {"a": "b"},
            "ab+",
            "a + b",
            0,
            1,
        ]
        for value in near + ODD_VALUES:
            with self.subTest(value):
                self.assertIs(caught(BadArrow, lambda: Wiring(TWO, [value])).value, value)
                error = caught(BadArrow, lambda: Wiring(TWO, [("a", "b", "+"), value, ("b", "a", "+")]))
                self.assertIs(error.value, value)

    def test_same_source_and_target(self):
        for sign in "+-?":
            again = ("a", "b", sign)
            arrows = [("a", "b", "+"), ("b", "a", "+"), again]
            self.assertEqual(caught(BadArrow, lambda: Wiring(TWO, arrows)).value, again)
        loop = ("b", "b", "-")
        self.assertEqual(caught(BadArrow, lambda: Wiring(TWO, [("b", "b", "?"), loop])).value, loop)

    def test_the_first_wrong_arrow_counts(self):
        arrows = [("b", "b", "+"), ("b", "b", "-"), ("z", "a", "+"), None]
        self.assertEqual(caught(BadArrow, lambda: Wiring(TWO, arrows)).value, ("b", "b", "-"))
        arrows = [("b", "b", "+"), ("z", "a", "+"), ("b", "b", "-"), ("A", "a", "+")]
        self.assertEqual(caught(BadArrow, lambda: Wiring(TWO, arrows)).value, ("z", "a", "+"))

    def test_opposite_arrows_are_different_ones(self):
        self.assertEqual(len(Wiring(TWO, [("a", "b", "+"), ("b", "a", "+")]).arrows), 2)


class TestOrderOfErrors(unittest.TestCase):
    def test_number_of_parts_before_names(self):
        tops = {name: 0 for name in "ABCDEFG"}
        self.assertEqual(caught(BadCount, lambda: Wiring(tops, [None])).count, 7)
        self.assertEqual(caught(BadCount, lambda: Wiring({}, [None])).count, 0)

    def test_names_before_tops(self):
        self.assertEqual(caught(BadName, lambda: Wiring({"a": 0, "b": None, "c-": 1}, [None])).name, "c-")

    def test_tops_before_states(self):
        tops = {"a": 3, "b": 3, "c": 3, "d": 3, "e": 3, "f": 4}
        self.assertEqual(caught(BadTop, lambda: Wiring(tops, [None])).value, 4)

    def test_states_before_arrows(self):
        self.assertEqual(caught(BadCount, lambda: Wiring(tops_of(3, 3, 3, 3, 3), [None])).count, 1024)

    def test_arrows_last(self):
        self.assertIs(caught(BadArrow, lambda: Wiring(tops_of(3, 3, 3, 3), [None])).value, None)


class TestCopies(unittest.TestCase):
    def test_arguments_stay_as_they_are(self):
        tops = {"b": 2, "a": 1}
        arrows = [("b", "a", "-"), ("a", "b", "+")]
        Wiring(tops, arrows)
        self.assertEqual(list(tops.items()), [("b", 2), ("a", 1)])
        self.assertEqual(arrows, [("b", "a", "-"), ("a", "b", "+")])

    def test_arguments_of_a_call_that_raises_stay_as_they_are(self):
        tops = {"b": 2, "a": 1}
        arrows = [("b", "a", "-"), ["a", "b", "+"]]
        caught(BadArrow, lambda: Wiring(tops, arrows))
        self.assertEqual(list(tops.items()), [("b", 2), ("a", 1)])
        self.assertEqual(arrows, [("b", "a", "-"), ["a", "b", "+"]])

    def test_arguments_may_change_afterwards(self):
        tops = {"b": 2, "a": 1}
        arrows = [("b", "a", "-"), ("a", "b", "+")]
        wiring = Wiring(tops, arrows)
        tops["a"] = 3
        tops["c"] = 1
        del tops["b"]
        arrows[0] = ("a", "a", "?")
        arrows.clear()
        self.assertEqual(str(wiring), "a:1 b:2; a + b; b - a")
        self.assertEqual(wiring.top("b"), 2)
        self.assertEqual(wiring.sign("b", "a"), "-")
        self.assertEqual(wiring.sign("a", "a"), None)
        self.assertEqual(wiring.sources("a"), ("b",))
        self.assertEqual(len(wiring.states()), 6)
        self.assertEqual(wiring.is_state((1, 2)), True)

    def test_a_tuple_may_stand_for_a_list(self):
        arrows = [("b", "a", "-"), ("a", "b", "+")]
        self.assertEqual(Wiring(TWO, tuple(arrows)), Wiring(TWO, arrows))
        self.assertEqual(Wiring(TWO, ()), Wiring(TWO, []))
        self.assertEqual(caught(BadArrow, lambda: Wiring(TWO, ("a", "b", "+"))).value, "a")

    def test_by_name(self):
        wiring = Wiring(arrows=[("a", "b", "+")], tops=TWO)
        self.assertEqual(wiring, Wiring(TWO, [("a", "b", "+")]))

    def test_order_of_keys_and_arrows_has_no_meaning(self):
        arrows = [("b", "a", "-"), ("a", "b", "+"), ("a", "a", "?")]
        one = Wiring({"a": 1, "b": 2}, arrows)
        other = Wiring({"b": 2, "a": 1}, arrows[::-1])
        self.assertEqual(one, other)
        self.assertEqual(str(one), str(other))
        self.assertEqual(one.parts, other.parts)
        self.assertEqual(one.arrows, other.arrows)
        self.assertEqual(one.states(), other.states())


if __name__ == "__main__":
    unittest.main()
