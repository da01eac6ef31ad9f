"""Points 11, 56 and 57: the least explanations, and the sources in all or in some of them."""

import itertools
import unittest

from surerests.errors import BadFact, UnknownName
from surerests.explaining import explains, is_simpler, least_explanations, needed_sources, possible_sources
from surerests.wirings import Wiring
from tests.samples import all_facts, arrows_to, caught, drawn_facts, full_wiring, is_below, wired


def sample():
    return wired("a:1 b:2 c:1; a + b; b - b; b ? c")


def least_of(wiring, facts, name):
    """By a search over all arrows to the part."""
    alone = {part: wiring.top(part) for part in wiring.parts}
    told = [(state, level) for state, part, level in facts if part == name]
    found = []
    for arrows in arrows_to(wiring, name):
        other = Wiring(alone, arrows)
        if not any(one[1] > two[1] and is_below(other, name, one[0], two[0]) for one in told for two in told):
            found.append(arrows)
    least = [arrows for arrows in found if not any(is_simpler(one, arrows) and one != arrows for one in found)]
    return sorted(least, key=lambda arrows: (len(arrows), arrows))


def has_two_levels(facts, name):
    told = {(state, level) for state, part, level in facts if part == name}
    return len({state for state, _ in told}) < len(told)


def cases():
    """Wirings of up to four parts with facts, some of them about one part alone."""
    for text in ("a:1", "a:3; a - a", "a:1 b:2", "a:1 b:2 c:1; a + b; b - b; b ? c", "a:2 b:2; b + a",
                 "a:1 b:1 c:3; c ? c", "a:1 b:1 c:1 d:1; a + d"):
        wiring = wired(text)
        for seed, many in ((0, 4), (1, 2), (1, 3), (2, 9), (3, 4), (4, 14), (5, 7), (7, 4), (9, 5), (11, 5), (13, 6)):
            facts = drawn_facts(wiring, seed, many)
            yield wiring, facts
            last = wiring.parts[-1]
            yield wiring, [(state, last, level) for state, _, level in facts if level <= wiring.top(last)]


class TestLeastExplanations(unittest.TestCase):
    def test_against_a_search(self):
        sizes = {}
        for wiring, facts in cases():
            for name in wiring.parts:
                told = least_explanations(wiring, facts, name)
                self.assertEqual(told, least_of(wiring, facts, name), (str(wiring), facts, name))
                self.assertEqual(told == [], has_two_levels(facts, name))
                sizes[min(len(told), 4)] = True
        self.assertEqual(sorted(sizes), [0, 1, 2, 3, 4])

    def test_two_facts(self):
        for text in ("a:1 b:1", "a:2", "a:1 b:2; a + b"):
            wiring = wired(text)
            for facts in itertools.product(all_facts(wiring), repeat=2):
                for name in wiring.parts:
                    told = least_explanations(wiring, facts, name)
                    self.assertEqual(told, least_of(wiring, facts, name))

    def test_four_parts_with_many_levels(self):
        wiring = wired("a:3 b:3 c:1 d:3; a + d")
        for seed, many in ((1, 9), (2, 40), (3, 5)):
            facts = [(state, "a", level) for state, _, level in drawn_facts(wiring, seed, many)]
            facts = [fact for fact in facts if fact[2] <= 3]
            self.assertEqual(least_explanations(wiring, facts, "a"), least_of(wiring, facts, "a"))

    def test_no_facts(self):
        for facts in ([], (), [((0, 0, 0), "a", 1)], [((0, 0, 0), "b", 1), ((1, 1, 1), "b", 1)]):
            self.assertEqual(least_explanations(sample(), facts, "b"), [()])
            self.assertEqual(needed_sources(sample(), facts, "b"), ())
            self.assertEqual(possible_sources(sample(), facts, "b"), ())

    def test_two_levels_behind_one_state(self):
        facts = [((0, 0, 0), "b", 1), ((1, 0, 0), "b", 0), ((0, 0, 0), "b", 2)]
        self.assertEqual(least_explanations(sample(), facts, "b"), [])
        self.assertEqual(needed_sources(sample(), facts, "b"), ())
        self.assertEqual(possible_sources(sample(), facts, "b"), ())
        self.assertEqual(least_explanations(sample(), facts, "a"), [()])

    def test_in_order(self):
        wiring = wired("a:1 b:1 c:1")
        facts = [((0, 0, 1), "c", 0), ((1, 1, 0), "c", 1), ((0, 1, 0), "c", 0), ((1, 0, 0), "c", 0)]
        self.assertEqual(least_explanations(wiring, facts, "c"), [
            (("a", "c", "+"), ("b", "c", "+")),
        ])
        facts = [((0, 0, 1), "c", 0), ((1, 1, 0), "c", 1)]
        self.assertEqual(least_explanations(facts=facts, name="c", wiring=wiring), [
            (("a", "c", "+"),), (("b", "c", "+"),), (("c", "c", "-"),),
        ])
        facts = [((0, 0, 0), "c", 0), ((0, 1, 0), "c", 1), ((1, 1, 0), "c", 0), ((1, 1, 1), "c", 1)]
        told = least_explanations(wiring, facts, "c")
        self.assertEqual(told, [
            (("a", "c", "-"), ("b", "c", "+"), ("c", "c", "+")),
        ])
        facts = facts[:2] + [((1, 1, 0), "c", 0)]
        self.assertEqual(least_explanations(wiring, tuple(facts), "c"), [(("a", "c", "-"), ("b", "c", "+"))])

    def test_both_signs_at_once(self):
        wiring = wired("a:2 b:1")
        facts = [((0, 0), "b", 0), ((1, 0), "b", 1), ((2, 0), "b", 0)]
        self.assertEqual(least_explanations(wiring, facts, "b"), [(("a", "b", "?"),)])
        facts = [((0, 0), "b", 0), ((1, 1), "b", 1), ((2, 0), "b", 0)]
        self.assertEqual(least_explanations(wiring, facts, "b"), [(("a", "b", "?"),), (("b", "b", "+"),)])

    def test_the_arrows_of_the_wiring_count_for_nothing(self):
        facts = [((0, 0), "b", 0), ((1, 0), "b", 1)]
        for text in ("a:1 b:1", "a:1 b:1; a - b", "a:1 b:1; a + a; b ? b"):
            self.assertEqual(least_explanations(wired(text), facts, "b"), [(("a", "b", "+"),)])

    def test_six_parts(self):
        wiring = full_wiring("?")
        facts = [((at & 1, at >> 1 & 1, at >> 2 & 1, at >> 3 & 1, at >> 4 & 1, at >> 5), "c", (at * at + at // 5) % 2)
                 for at in range(0, 64, 3)]
        told = least_explanations(wiring, facts, "c")
        self.assertGreater(len(told), 0)
        self.assertEqual(told, sorted(told, key=lambda arrows: (len(arrows), arrows)))
        for arrows in told:
            self.assertIs(explains(wiring, facts, "c", arrows), True)
            for at, (source, target, sign) in enumerate(arrows):
                fewer = [()] if sign != "?" else [((source, target, "+"),), ((source, target, "-"),)]
                for other in fewer:
                    self.assertIs(explains(wiring, facts, "c", arrows[:at] + other + arrows[at + 1:]), False)
        for one, other in itertools.permutations(told, 2):
            self.assertIs(is_simpler(one, other), False)
        found = [arrows for arrows in arrows_to(wiring, "c")[::41] if explains(wiring, facts, "c", arrows)]
        for arrows in found:
            self.assertTrue(any(is_simpler(one, arrows) for one in told))

    def test_all_facts_of_256_states(self):
        wiring = wired("a:3 b:3 c:1 d:1 e:1 f:1; a + b")
        facts = [(state, "b", min(3, state[0] + state[2] + 1 - state[5])) for state in wiring.states()]
        told = (("a", "b", "+"), ("c", "b", "+"), ("f", "b", "-"))
        self.assertEqual(least_explanations(wiring, facts, "b"), [told])
        self.assertEqual(needed_sources(wiring, facts, "b"), ("a", "c", "f"))

    def test_the_list_is_new(self):
        least_explanations(sample(), [], "b").clear()
        self.assertEqual(least_explanations(sample(), [], "b"), [()])


class TestSources(unittest.TestCase):
    def test_by_the_least_explanations(self):
        different = 0
        for wiring, facts in cases():
            for name in wiring.parts:
                rows = [{arrow[0] for arrow in arrows} for arrows in least_explanations(wiring, facts, name)]
                needed = tuple(part for part in wiring.parts if rows and all(part in row for row in rows))
                possible = tuple(part for part in wiring.parts if any(part in row for row in rows))
                self.assertEqual(needed_sources(wiring, facts, name), needed)
                self.assertEqual(possible_sources(wiring, facts, name), possible)
                self.assertEqual(needed_sources(name=name, wiring=wiring, facts=tuple(facts)), needed)
                self.assertEqual(possible_sources(facts=tuple(facts), wiring=wiring, name=name), possible)
                different = different + (() != needed != possible)
        self.assertGreater(different, 5)

    def test_some_are_needed(self):
        wiring = wired("a:1 b:1 c:1")
        facts = [((0, 0, 0), "a", 0), ((1, 0, 1), "a", 1), ((1, 1, 1), "a", 0)]
        self.assertEqual(least_explanations(wiring, facts, "a"), [
            (("a", "a", "+"), ("b", "a", "-")), (("b", "a", "-"), ("c", "a", "+")),
        ])
        self.assertEqual(needed_sources(wiring, facts, "a"), ("b",))
        self.assertEqual(possible_sources(wiring, facts, "a"), ("a", "b", "c"))


class TestErrors(unittest.TestCase):
    def test_the_order_of_the_errors(self):
        clashing = [((0, 0, 0), "b", 1), ((0, 0, 0), "b", 0)]
        for call in (least_explanations, needed_sources, possible_sources):
            for name in ("", "x", "A", "ab", "b "):
                self.assertEqual(caught(UnknownName, lambda: call(sample(), clashing, name)).name, name)
                for value in (None, ((0, 0, 0), name, 0), ((0, 0, 0), "b", True)):
                    error = caught(BadFact, lambda: call(sample(), [*clashing, value, ()], name))
                    self.assertIs(error.value, value)


if __name__ == "__main__":
    unittest.main()
