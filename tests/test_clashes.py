"""Points 8, 9, 11, 49 and 50: what is a fact, which facts clash, and rules that fit facts."""

import itertools
import unittest

from surerests.errors import BadFact
from surerests.explaining import explains, least_explanations, needed_sources, possible_sources
from surerests.facts import clash, fits_facts, greatest_level, greatest_rules, least_level, least_rules
from surerests.facts import may_rest, surely_rests
from surerests.rules import Rules, lowest_rules
from tests.samples import ODD_VALUES, all_facts, caught, choices_of, clash_of, drawn_facts, drawn_rules, fitting_tables
from tests.samples import full_wiring, next_of, rules_of, samples, small_wirings, tables_told, wired

# None of these is a fact of a wiring with the parts a:1 and b:2.
NO_FACTS = [
    *ODD_VALUES,
    ((0, 0), "a", 2), ((0, 0), "b", 3), ((0, 0), "a", -1), ((0, 0), "a", True), ((0, 0), "b", False),
    ((0, 0), "a", None), ((0, 0), "a", "0"), ((0, 0), "a", [0]), ((0, 0), "a", (0,)),
    ((0, 0), "c", 0), ((0, 0), "", 0), ((0, 0), "ab", 0), ((0, 0), None, 0), ((0, 0), 0, 0), ((0, 0), ["a"], 0),
    ((0, 0), ("a",), 0), ((0, 0), {}, 0),
    ((0, 3), "a", 0), ((2, 0), "a", 0), ((0,), "a", 0), ((0, 0, 0), "a", 0), ([0, 0], "a", 0), ((True, 0), "a", 0),
    ((0, False), "a", 0), (None, "a", 0), ("00", "a", 0), (([], 0), "a", 0),
    ((0, 0), "a"), ((0, 0), "a", 0, 0), ((0, 0),), [(0, 0), "a", 0], ("a", (0, 0), 0), (((0, 0), "a", 0),),
    {"a": ((0, 0), "a", 0)},
]


def sample():
    return wired("a:1 b:2; a + b; b + a; b - b")


def calls():
    """A call with these facts of each function that has them, each with other arguments that are wrong as well."""
    wiring = sample()
    return {
        "clash": lambda facts: clash(wiring, facts),
        "fits_facts": lambda facts: fits_facts(lowest_rules(wiring), facts),
        "least_level": lambda facts: least_level(wiring, facts, "c", None),
        "greatest_level": lambda facts: greatest_level(wiring, facts, "c", (0,)),
        "least_rules": lambda facts: least_rules(wiring, facts),
        "greatest_rules": lambda facts: greatest_rules(wiring, facts),
        "surely_rests": lambda facts: surely_rests(wiring, facts, [0, 0]),
        "may_rest": lambda facts: may_rest(wiring, facts, ()),
        "explains": lambda facts: explains(wiring, facts, "c", [None]),
        "least_explanations": lambda facts: least_explanations(wiring, facts, "c"),
        "needed_sources": lambda facts: needed_sources(wiring, facts, ""),
        "possible_sources": lambda facts: possible_sources(wiring, facts, "ab"),
    }


class TestBadFacts(unittest.TestCase):
    def test_any_values_ahead_of_any_other_error(self):
        clashing = [((0, 0), "b", 2), ((0, 0), "b", 0)]
        for name, call in calls().items():
            for value in NO_FACTS:
                with self.subTest(name, value=value):
                    for facts in ([value], [*clashing, value, None], (*clashing, value, ()), [value, *clashing]):
                        self.assertIs(caught(BadFact, lambda: call(facts)).value, value)

    def test_facts_of_another_wiring(self):
        fact = ((0, 2), "b", 2)
        self.assertIsNone(clash(sample(), [fact]))
        for text in ("a:2 b:1", "a:1 b:1 c:1", "b:3", "a:1 c:2"):
            self.assertIs(caught(BadFact, lambda: clash(wired(text), [fact])).value, fact)
            self.assertIs(caught(BadFact, lambda: fits_facts(lowest_rules(wired(text)), [fact])).value, fact)

    def test_all_facts_are_taken(self):
        for wiring in (sample(), wired("a:3"), wired("b:1 b1:2; b ? b1")):
            for fact in all_facts(wiring):
                self.assertIsNone(clash(wiring, [fact]))
                self.assertIsNone(clash(wiring, (fact,)))


class TestClash(unittest.TestCase):
    def test_by_the_points(self):
        counts = {True: 0, False: 0}
        for wiring in [*small_wirings(), *samples(), full_wiring("-"), full_wiring("?", 3)]:
            for seed, many in ((0, 7), (1, 3), (3, 8), (2, 12)):
                facts = drawn_facts(wiring, seed, many)
                told = clash_of(wiring, facts)
                self.assertEqual(clash(wiring, facts), told, (str(wiring), facts))
                counts[told is None] = counts[told is None] + 1
                if seed % 2 == 0:
                    self.assertIsNone(told)
        self.assertGreater(min(counts.values()), 300)

    def test_two_facts(self):
        for text in ("a:2; a + a", "a:2; a - a", "a:2; a ? a", "a:2", "a:1 b:1; a + b; b - b", "a:1 b:1; a ? b; b - a"):
            wiring = wired(text)
            for one, other in itertools.product(all_facts(wiring), repeat=2):
                self.assertEqual(clash(wiring, [one, other]), clash_of(wiring, [one, other]), text)

    def test_signs(self):
        low, high = ((0, 0), "b", 1), ((1, 0), "b", 0)
        # b should be at 1 behind the lower level of a, and at 0 behind the higher one.
        for text, told in (("a:1 b:1; a + b", (low, high)), ("a:1 b:1; a - b", None), ("a:1 b:1; a ? b", None),
                           ("a:1 b:1", (low, high)), ("a:1 b:1; a + a; a - b; b + b", None),
                           ("a:1 b:1; b - b", (low, high))):
            self.assertEqual(clash(wired(text), [low, high]), told, text)
            self.assertEqual(clash(wired(text), [high, low]), told, text)
        for sign in "+-?":
            wiring = wired(f"a:1 b:1; a {sign} b")
            told = (((1, 0), "b", 1), ((1, 1), "b", 0))
            self.assertEqual(clash(wiring, [((1, 1), "b", 0), ((0, 0), "a", 0), ((1, 0), "b", 1)]), told)

    def test_the_first_tuple_by_the_places(self):
        wiring = wired("a:3; a + a")
        facts = [((2,), "a", 1), ((3,), "a", 0), ((0,), "a", 2), ((1,), "a", 3), ((3,), "a", 1)]
        # The first fact that clashes with any, as the one that stands first, and then the first one against it.
        self.assertEqual(clash(wiring, facts), (facts[0], facts[1]))
        self.assertEqual(clash(wiring, facts[2:]), (facts[2], facts[4]))
        self.assertEqual(clash(wiring, facts[::-1]), (facts[4], facts[1]))
        self.assertEqual(clash(wiring, facts[1:]), (facts[2], facts[1]))
        # A fact that clashes with an earlier one alone.
        self.assertEqual(clash(facts=[facts[1], facts[3]], wiring=wiring), (facts[3], facts[1]))

    def test_facts_that_do_not_clash(self):
        wiring = sample()
        fact = ((0, 1), "b", 1)
        for facts in ([], (), [fact], [fact, fact, fact], [fact, ((0, 1), "a", 0)], [fact, ((1, 0), "b", 2)]):
            self.assertIsNone(clash(wiring, facts))
        # Facts about different parts do not clash, whatever their levels are.
        self.assertIsNone(clash(wired("a:3 b:3"), [((0, 0), "a", 3), ((0, 0), "b", 0)]))

    def test_many_facts(self):
        for wiring in (full_wiring("+"), full_wiring("-", 3), full_wiring("?")):
            rules = drawn_rules(wiring, 4)
            facts = [
                (state, name, level)
                for state in wiring.states() for name, level in zip(wiring.parts, rules.next(state))
            ]
            self.assertIsNone(clash(wiring, facts))
            self.assertIs(fits_facts(rules, facts), True)
            state, name, level = facts[-1]
            wrong = (state, name, 0 if level else 1)
            self.assertEqual(set(clash(wiring, [wrong, *facts])) & {wrong}, {wrong})

    def test_some_rules_fit_exactly_if_no_two_clash(self):
        for wiring in small_wirings():
            for seed in (1, 3, 4):
                facts = drawn_facts(wiring, seed, 4)
                fitting = all(fitting_tables(wiring, name, facts) for name in wiring.parts)
                self.assertEqual(clash(wiring, facts) is None, fitting)


class TestFitsFacts(unittest.TestCase):
    def test_by_the_tables(self):
        counts = {True: 0, False: 0}
        for wiring in itertools.islice(small_wirings(), 0, None, 3):
            for seed in (0, 1, 2, 3):
                facts = drawn_facts(wiring, seed, 1 + seed)
                for rules in itertools.chain(itertools.islice(rules_of(wiring, 5), 5), [drawn_rules(wiring, seed)]):
                    tables = tables_told(rules)
                    told = all(
                        next_of(wiring, tables, state)[wiring.parts.index(name)] == level
                        for state, name, level in facts
                    )
                    self.assertIs(fits_facts(rules, facts), told)
                    counts[told] = counts[told] + 1
        self.assertGreater(min(counts.values()), 200)

    def test_each_level(self):
        wiring = sample()
        rules = Rules(wiring, {
            "a": {(0,): 0, (1,): 0, (2,): 1},
            "b": {choice: choice[0] for choice in choices_of(wiring, "b")},
        })
        for fact in all_facts(wiring):
            told = rules.next(fact[0])["ab".index(fact[1])] == fact[2]
            self.assertIs(fits_facts(rules, [fact]), told)
            self.assertIs(fits_facts(facts=(((0, 0), "a", 0), fact), rules=rules), told)
            self.assertIs(fits_facts(rules, [fact, ((0, 0), "a", 0)]), told)

    def test_no_facts(self):
        self.assertIs(fits_facts(lowest_rules(sample()), []), True)
        self.assertIs(fits_facts(lowest_rules(sample()), ()), True)

    def test_facts_that_clash(self):
        facts = [((0, 0), "b", 2), ((0, 0), "b", 0)]
        self.assertIs(fits_facts(lowest_rules(sample()), facts), False)


if __name__ == "__main__":
    unittest.main()
