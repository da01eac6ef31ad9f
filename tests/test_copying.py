"""Point 28: the lowest rules, and rules in which some parts copy."""

import itertools
import unittest

from surerests.errors import BadArrow, BadNumber
from surerests.rules import all_rests, copying, lowest_rules
from surerests.wirings import Wiring
from tests.samples import ODD_VALUES, caught, choices_of, full_wiring, samples, small_wirings, wired


def arrows_that_copy(wiring):
    """The arrows that can stand in the list, by the point."""
    found = []
    for source, target, sign in wiring.arrows:
        found.extend((source, target, one) for one in ("+-" if sign == "?" else sign))
    return found


def lists_of(wiring, most):
    """Lists of up to so many arrows with different targets."""
    for many in range(most + 1):
        for arrows in itertools.permutations(arrows_that_copy(wiring), many):
            if len({arrow[1] for arrow in arrows}) == many:
                yield list(arrows)


def sample():
    return wired("a:3 b:2 c:1 d:1; a + b; b - a; a ? c; c ? d; d ? d; b + b; c + c; a + a")


class TestLowestRules(unittest.TestCase):
    def test_every_next_level_is_0(self):
        for wiring in [*samples(), *small_wirings()]:
            rules = lowest_rules(wiring)
            self.assertEqual(rules.wiring, wiring)
            for name in wiring.parts:
                self.assertEqual(rules.table(name), {choice: 0 for choice in choices_of(wiring, name)})
            self.assertEqual(all_rests(rules), [(0,) * len(wiring.parts)])

    def test_by_name(self):
        self.assertEqual(lowest_rules(wiring=wired("a:1")).table("a"), {(): 0})


class TestCopying(unittest.TestCase):
    def check(self, wiring, arrows, shift):
        rules = copying(wiring, arrows, shift)
        self.assertEqual(rules.wiring, wiring)
        copies = {target: (source, sign) for source, target, sign in arrows}
        for name in wiring.parts:
            for choice, level in rules.table(name).items():
                told = 0
                if name in copies:
                    source, sign = copies[name]
                    told = min(choice[wiring.sources(name).index(source)], shift)
                    told = shift - told if sign == "-" else told
                self.assertEqual(level, told, (str(wiring), arrows, shift, name, choice))

    def test_all_lists_of_arrows_and_shifts(self):
        for wiring in samples() + [sample()]:
            for arrows in itertools.islice(lists_of(wiring, 3), 400):
                most = min([wiring.top(arrow[1]) for arrow in arrows], default=3)
                for shift in range(1, most + 1):
                    self.check(wiring, arrows, shift)

    def test_small_wirings(self):
        for wiring in small_wirings():
            for arrows in itertools.islice(lists_of(wiring, 3), 0, 60, 7):
                self.check(wiring, arrows, 1)

    def test_both_signs(self):
        wiring = wired("a:3 b:2; a + b; b - a")
        rules = copying(wiring, [("b", "a", "-"), ("a", "b", "+")], 2)
        self.assertEqual(rules.table("b"), {(0,): 0, (1,): 1, (2,): 2, (3,): 2})
        self.assertEqual(rules.table("a"), {(0,): 2, (1,): 1, (2,): 0})

    def test_an_unknown_sign_can_be_either(self):
        wiring = wired("a:2 b:2; a ? b")
        self.assertEqual(copying(wiring, [("a", "b", "+")], 2).table("b"), {(0,): 0, (1,): 1, (2,): 2})
        self.assertEqual(copying(wiring, [("a", "b", "-")], 2).table("b"), {(0,): 2, (1,): 1, (2,): 0})
        self.assertEqual(copying(wiring, [("a", "b", "-")], 1).table("b"), {(0,): 1, (1,): 0, (2,): 0})
        self.assertEqual(copying(wiring, [("a", "b", "+")], 1).table("b"), {(0,): 0, (1,): 1, (2,): 1})

    def test_a_source_with_a_lower_top_than_the_shift(self):
        wiring = wired("a:1 b:3; a - b")
        for shift in (1, 2, 3):
            self.assertEqual(copying(wiring, wiring.arrows, shift).table("b"), {(0,): shift, (1,): shift - 1})

    def test_other_sources_have_no_effect(self):
        wiring = wired("a:1 b:1 c:1; a + c; b - c; c ? c")
        told = copying(wiring, [("b", "c", "-")], 1).table("c")
        self.assertEqual(told, {choice: 1 - choice[1] for choice in itertools.product(range(2), repeat=3)})

    def test_no_arrows(self):
        for shift in (1, 2, 3):
            self.assertEqual(copying(sample(), [], shift), lowest_rules(sample()))
            self.assertEqual(copying(sample(), (), shift), lowest_rules(sample()))

    def test_six_parts(self):
        wiring = full_wiring("?")
        arrows = [(name, name, "+") for name in wiring.parts]
        self.assertEqual(all_rests(copying(wiring, arrows, 1)), wiring.states())

    def test_a_tuple_for_the_list_and_arguments_by_name(self):
        wiring = wired("a:1 b:2; a + b; b - a")
        told = copying(wiring, [("a", "b", "+"), ("b", "a", "-")], 1)
        self.assertEqual(copying(shift=1, arrows=wiring.arrows, wiring=wiring), told)
        self.assertEqual(copying(wiring, wiring.arrows[::-1], 1), told)

    def test_the_list_stays_as_it_is(self):
        arrows = [("b", "a", "-"), ("a", "b", "+")]
        copying(sample(), arrows, 1)
        self.assertEqual(arrows, [("b", "a", "-"), ("a", "b", "+")])


class TestBadArrows(unittest.TestCase):
    def test_any_values(self):
        more = [
            ("a", "b"), ("a", "b", "-"), ("a", "b", "?"), ("b", "a", "+"), ("b", "c", "+"), ("c", "d", "?"),
            ["a", "b", "+"], ("a", "b", "+", "+"), ("a", "b", ["+"]), ("a", ["b"], "+"), ({}, "b", "+"),
            ("a", "e", "+"), ("e", "a", "-"),
            "a + b", ("a", "b", None), ("a", "b", ""), ("a", "b", "+-"), (("a", "b", "+"),),
        ]
        for value in ODD_VALUES + more:
            for ahead in ([], [("b", "a", "-")], [("c", "d", "-"), ("c", "c", "+")]):
                with self.subTest(value=value, ahead=ahead):
                    arrows = [*ahead, value, None, ("a", "c", "+")]
                    self.assertIs(caught(BadArrow, lambda: copying(sample(), arrows, 1)).value, value)

    def test_the_target_of_an_earlier_arrow(self):
        for one, other in ((("a", "b", "+"), ("b", "b", "+")), (("c", "d", "+"), ("c", "d", "-")),
                           (("a", "b", "+"), ("a", "b", "+"))):
            arrows = [("b", "a", "-"), one, other, ("a", "a", "+")]
            error = caught(BadArrow, lambda: copying(sample(), arrows, 1))
            self.assertIs(error.value, other)
            self.assertIs(caught(BadArrow, lambda: copying(sample(), tuple(arrows), 0)).value, other)

    def test_before_bad_numbers(self):
        for shift in (0, 4, None, True, [], "1"):
            self.assertEqual(caught(BadArrow, lambda: copying(sample(), [(), None], shift)).value, ())

    def test_no_arrow_of_the_wiring(self):
        error = caught(BadArrow, lambda: copying(Wiring({"a": 1}, []), [("a", "a", "+")], 1))
        self.assertEqual(error.value, ("a", "a", "+"))


class TestBadNumbers(unittest.TestCase):
    def test_any_values(self):
        for value in [*ODD_VALUES, 0, 4, -1, (1,), [1], "1"]:
            for arrows in ([], [("a", "a", "+")], [("a", "b", "+")], [("a", "b", "+"), ("c", "d", "+")]):
                with self.subTest(value=value, arrows=arrows):
                    self.assertIs(caught(BadNumber, lambda: copying(sample(), arrows, value)).value, value)

    def test_the_least_top_of_the_targets(self):
        for arrows, most in (
            ([("a", "a", "+")], 3), ([("b", "a", "-")], 3), ([("a", "b", "+")], 2), ([], 3),
            ([("a", "a", "+"), ("a", "b", "+")], 2), ([("a", "c", "-")], 1),
            ([("a", "b", "+"), ("a", "c", "+"), ("a", "a", "+")], 1),
        ):
            for shift in range(-1, 6):
                if 1 <= shift <= most:
                    self.assertEqual(copying(sample(), arrows, shift).wiring, sample())
                else:
                    self.assertEqual(caught(BadNumber, lambda: copying(sample(), arrows, shift)).value, shift)


if __name__ == "__main__":
    unittest.main()
