"""Points 5, 15 and 16: what a wiring tells of its parts, arrows and states, and equality."""

import itertools
import unittest

from surerests.errors import UnknownName
from surerests.wirings import Wiring
from tests.samples import ODD_VALUES, SAMPLE_TEXTS, caught, samples

STRANGE_NAMES = ["", "c", "A", "ab", "aa", "a ", "a\n", "+", "abcdefg"]


def sample():
    return Wiring({"b": 2, "a1": 3, "a": 1}, [("b", "b", "?"), ("b", "a", "-"), ("a", "b", "+"), ("a1", "b", "-")])


class TestPartsAndArrows(unittest.TestCase):
    def test_parts_in_ascending_order(self):
        self.assertEqual(sample().parts, ("a", "a1", "b"))
        self.assertEqual(Wiring({"ab": 1, "a": 1, "a0": 1, "b": 1, "aa": 1}, []).parts, ("a", "a0", "aa", "ab", "b"))

    def test_arrows_in_order(self):
        told = (("a", "b", "+"), ("a1", "b", "-"), ("b", "a", "-"), ("b", "b", "?"))
        self.assertEqual(sample().arrows, told)
        self.assertEqual(Wiring({"a": 1}, []).arrows, ())

    def test_top(self):
        self.assertEqual([sample().top(name) for name in ("a", "a1", "b")], [1, 3, 2])
        self.assertEqual(sample().top(name="b"), 2)

    def test_sources_in_ascending_order(self):
        self.assertEqual(sample().sources("b"), ("a", "a1", "b"))
        self.assertEqual(sample().sources("a"), ("b",))
        self.assertEqual(sample().sources("a1"), ())
        self.assertEqual(sample().sources(name="a"), ("b",))

    def test_sources_of_all_samples(self):
        for wiring in samples():
            for name in wiring.parts:
                told = tuple(source for source, target, _ in wiring.arrows if target == name)
                self.assertEqual(wiring.sources(name), told)

    def test_sign(self):
        wiring = sample()
        signs = {(source, target): sign for source, target, sign in wiring.arrows}
        for source in wiring.parts:
            for target in wiring.parts:
                self.assertEqual(wiring.sign(source, target), signs.get((source, target)))
        self.assertEqual(wiring.sign(target="b", source="a"), "+")
        self.assertIs(wiring.sign("a", "a"), None)

    def test_unknown_names(self):
        wiring = Wiring.read("a:1 b:1; a + b")
        for name in STRANGE_NAMES:
            with self.subTest(name):
                self.assertEqual(caught(UnknownName, lambda: wiring.top(name)).name, name)
                self.assertEqual(caught(UnknownName, lambda: wiring.sources(name)).name, name)
                self.assertEqual(caught(UnknownName, lambda: wiring.sign(name, "a")).name, name)
                self.assertEqual(caught(UnknownName, lambda: wiring.sign("a", name)).name, name)

    def test_unknown_source_before_unknown_target(self):
        wiring = Wiring.read("a:1 b:1; a + b")
        self.assertEqual(caught(UnknownName, lambda: wiring.sign("z", "c")).name, "z")
        self.assertEqual(caught(UnknownName, lambda: wiring.sign("c", "z")).name, "c")


class TestStates(unittest.TestCase):
    def test_states_in_order(self):
        told = [(0, 0), (0, 1), (0, 2), (1, 0), (1, 1), (1, 2)]
        self.assertEqual(Wiring({"b": 2, "a": 1}, []).states(), told)
        self.assertEqual(Wiring({"a": 3}, []).states(), [(0,), (1,), (2,), (3,)])

    def test_states_of_all_tops(self):
        for many in range(1, 5):
            for tops in itertools.product((1, 2, 3), repeat=many):
                wiring = Wiring(dict(zip("abcd", tops)), [])
                told = list(itertools.product(*[range(top + 1) for top in tops]))
                self.assertEqual(wiring.states(), told)

    def test_most_states(self):
        states = Wiring.read("a:3 b:3 c:3 d:3").states()
        self.assertEqual(len(states), 256)
        self.assertEqual(states, sorted(set(states)))
        self.assertEqual(states[-1], (3, 3, 3, 3))

    def test_told_states_may_be_changed(self):
        wiring = sample()
        told = wiring.states()
        kept = list(told)
        told.append((9, 9, 9))
        del told[0]
        self.assertEqual(wiring.states(), kept)
        self.assertEqual(wiring.is_state((0, 0, 0)), True)
        self.assertEqual(wiring.is_state((9, 9, 9)), False)

    def test_each_state_is_a_state(self):
        for wiring in samples():
            for state in wiring.states():
                self.assertIs(wiring.is_state(state), True)

    def test_is_state_around_the_states(self):
        for wiring in samples():
            states = wiring.states()
            levels = range(-1, 5)
            for value in itertools.product(levels, repeat=min(len(wiring.parts), 4)):
                self.assertIs(wiring.is_state(value), value in states)

    def test_is_state_of_any_value(self):
        wiring = Wiring.read("a:1 b:2 c:3")
        near = [
            (0, 0),
            (0, 0, 0, 0),
            (0, 0, 4),
            (0, 3, 0),
            (2, 0, 0),
            (0, -1, 0),
            (0, 0, True),
            (False, 0, 0),
            (0, None, 0),
            (0, "0", 0),
            (0, (0,), 0),
            (0, [], {}),
            ((0, 0, 0),),
            [0, 0, 0],
            [(0, 0, 0)],
            {0: 0, 1: 0, 2: 0},
            "000",
            (0, 0, 10 ** 40),
            (0, 0, -(10 ** 40)),
        ]
        for value in near + ODD_VALUES:
            with self.subTest(value):
                self.assertIs(wiring.is_state(value), False)
        self.assertIs(wiring.is_state(value=(1, 2, 3)), True)

    def test_is_state_of_a_single_part(self):
        wiring = Wiring.read("a:1")
        self.assertIs(wiring.is_state((1,)), True)
        for value in [(True,), (False,), (2,), (-1,), 1, 0, True, [1], (), "a", "1", ((1,),), None]:
            with self.subTest(value):
                self.assertIs(wiring.is_state(value), False)


class TestEquality(unittest.TestCase):
    def test_equal(self):
        for text in SAMPLE_TEXTS:
            self.assertTrue(Wiring.read(text) == Wiring.read(text))
            self.assertFalse(Wiring.read(text) != Wiring.read(text))

    def test_unequal(self):
        texts = [
            "a:1 b:1; a + b",
            "a:1 b:1",
            "a:1 b:2; a + b",
            "a:2 b:1; a + b",
            "a:1 b:1; a - b",
            "a:1 b:1; a ? b",
            "a:1 b:1; b + a",
            "a:1 b:1; a + a",
            "a:1 b:1; a + b; b + a",
            "a:1 c:1; a + c",
            "a:1 b:1 c:1; a + b",
            "a:1",
        ]
        for one in texts:
            for other in texts:
                with self.subTest(one, other=other):
                    self.assertIs(Wiring.read(one) == Wiring.read(other), one == other)
                    self.assertIs(Wiring.read(one) != Wiring.read(other), one != other)

    def test_values_of_other_kinds(self):
        for wiring in samples():
            near = [str(wiring), wiring.parts, wiring.arrows, wiring.states(), (wiring.parts, wiring.arrows), object()]
            for value in near + ODD_VALUES + [0, 1]:
                self.assertIs(wiring == value, False)
                self.assertIs(value == wiring, False)
                self.assertIs(wiring != value, True)

    def test_objects_of_other_classes(self):
        class Likeness:
            def __init__(self, wiring):
                vars(self).update(vars(wiring))

        for wiring in samples():
            self.assertIs(wiring == Likeness(wiring), False)


if __name__ == "__main__":
    unittest.main()
