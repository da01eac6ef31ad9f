"""Points 9, 51, 52 and 53: the levels that can come next, and states that surely or perhaps rest."""

import itertools
import unittest

from surerests.errors import BadState, Clash, UnknownName
from surerests.facts import clash, fits_facts, greatest_level, greatest_rules, least_level, least_rules
from surerests.facts import may_rest, surely_rests
from surerests.rules import Rules
from tests.samples import ODD_VALUES, caught, choice_of, choices_of, drawn_facts, fits, fitting_tables, full_wiring
from tests.samples import is_below, rules_of, samples, small_wirings, wired, wirings_of

NO_STATES = [*ODD_VALUES, (0,), (0, 0, 0), [0, 0], (2, 0), (0, 3), (0, -1), (True, 0), (0, True), ("0", 0), ([], 0)]
CLASHING = [((0, 0), "b", 2), ((0, 0), "b", 1), ((0, 0), "b", 0)]


def sample():
    return wired("a:1 b:2; a + b; b + a; b - b")


def levels_of(wiring, name, state, tables):
    """The levels that these tables of a part tell behind a state, each once."""
    choice = choice_of(wiring, name, state)
    return sorted({table[choice] for table in tables})


def cases(step=1):
    """Small wirings with facts that do not clash."""
    for wiring in itertools.islice(small_wirings(), 0, None, step):
        for seed, many in ((0, 0), (0, 3), (1, 1), (1, 3), (2, 6), (3, 4)):
            facts = drawn_facts(wiring, seed, many)
            if clash(wiring, facts) is None:
                yield wiring, facts


class TestLevels(unittest.TestCase):
    def test_over_all_rules_that_fit(self):
        between = 0
        for wiring, facts in cases(2):
            for name in wiring.parts:
                tables = fitting_tables(wiring, name, facts)
                for state in wiring.states():
                    levels = levels_of(wiring, name, state, tables)
                    least = least_level(wiring, facts, name, state)
                    greatest = greatest_level(wiring, facts, name, state)
                    # Least and greatest, and all between them.
                    self.assertEqual(levels, list(range(least, greatest + 1)), (str(wiring), facts, name, state))
                    between = between + (greatest > least + 1)
        self.assertGreater(between, 100)

    def test_over_whole_rules(self):
        for wiring in itertools.islice(wirings_of({"a": 1, "b": 1}), 0, None, 3):
            facts = drawn_facts(wiring, 2, 3)
            fitting = [rules for rules in rules_of(wiring) if fits_facts(rules, facts)]
            for state in wiring.states():
                rows = [rules.next(state) for rules in fitting]
                for place, name in enumerate(wiring.parts):
                    levels = [row[place] for row in rows]
                    self.assertEqual(least_level(wiring, facts, name, state), min(levels))
                    self.assertEqual(greatest_level(wiring, facts, name, state), max(levels))
                self.assertIs(surely_rests(wiring, facts, state), all(row == state for row in rows))
                self.assertIs(may_rest(wiring, facts, state), any(row == state for row in rows))

    def test_larger_wirings_by_the_facts(self):
        for wiring in (*samples(), full_wiring("+"), full_wiring("-", 3), full_wiring("?"), six_parts()):
            for seed, many in ((0, 30), (2, 80), (4, 0)):
                facts = drawn_facts(wiring, seed, many)
                for state in wiring.states()[::19]:
                    for name in wiring.parts:
                        below = [fact[2] for fact in facts
                                 if fact[1] == name and is_below(wiring, name, fact[0], state)]
                        above = [fact[2] for fact in facts
                                 if fact[1] == name and is_below(wiring, name, state, fact[0])]
                        told = (max(below, default=0), min(above, default=wiring.top(name)))
                        self.assertEqual(least_level(wiring, facts, name, state), told[0])
                        self.assertEqual(greatest_level(wiring, facts, name, state), told[1])

    def test_no_facts(self):
        for facts in ([], ()):
            for state in sample().states():
                self.assertEqual(least_level(sample(), facts, "b", state), 0)
                self.assertEqual(greatest_level(name="b", facts=facts, state=state, wiring=sample()), 2)
                self.assertEqual(least_level(state=state, name="a", wiring=sample(), facts=facts), 0)
                self.assertEqual(greatest_level(sample(), facts, "a", state), 1)

    def test_a_fact_that_comes_twice(self):
        fact = ((0, 1), "b", 1)
        for facts in ([fact], [fact, fact], (fact, fact, fact)):
            self.assertEqual(least_level(sample(), facts, "b", (0, 1)), 1)
            self.assertEqual(greatest_level(sample(), facts, "b", (0, 1)), 1)
            self.assertEqual([least_level(sample(), facts, "b", state) for state in sample().states()],
                             [1, 1, 0, 1, 1, 0])
            self.assertEqual([greatest_level(sample(), facts, "b", state) for state in sample().states()],
                             [2, 1, 1, 2, 2, 2])


def six_parts():
    return wired(
        "a:1 b:1 c:3 d:1 e:1 f:1; a + b; b - c; c ? d; d + e; e - f; f ? a; a - c; c + a; b ? e; e + b; f + f; d - d;"
        " c - c; a ? f; f - b"
    )


class TestRules(unittest.TestCase):
    def check(self, wiring, facts):
        least, greatest = least_rules(wiring, facts), greatest_rules(wiring, facts)
        for rules, level_of in ((least, least_level), (greatest, greatest_level)):
            self.assertIsInstance(rules, Rules)
            self.assertEqual(rules.wiring, wiring)
            self.assertIs(fits_facts(rules, facts), True)
            for name in wiring.parts:
                signs = [wiring.sign(source, name) for source in wiring.sources(name)]
                self.assertTrue(len(signs) > 3 or fits(signs, rules.table(name)))
            for state in wiring.states()[::1 + len(wiring.states()) // 20]:
                told = tuple(level_of(wiring, facts, name, state) for name in wiring.parts)
                self.assertEqual(rules.next(state), told)

    def test_rules_of_small_wirings(self):
        for wiring, facts in cases(5):
            self.check(wiring, facts)
            for name in wiring.parts:
                tables = fitting_tables(wiring, name, facts)
                least, greatest = least_rules(wiring, facts).table(name), greatest_rules(wiring, facts).table(name)
                for choice in choices_of(wiring, name):
                    self.assertEqual(least[choice], min(table[choice] for table in tables))
                    self.assertEqual(greatest[choice], max(table[choice] for table in tables))

    def test_rules_of_larger_wirings(self):
        for wiring in (*samples(), full_wiring("+"), full_wiring("-", 3), full_wiring("?"), six_parts()):
            for many in (0, 5, 60):
                self.check(wiring, drawn_facts(wiring, 6, many))

    def test_arguments_by_name_and_tuples(self):
        facts = [((0, 1), "b", 1), ((1, 2), "b", 1), ((1, 2), "a", 0)]
        told = least_rules(sample(), facts)
        self.assertEqual(least_rules(facts=tuple(facts), wiring=sample()), told)
        self.assertEqual(greatest_rules(facts=tuple(facts), wiring=sample()), greatest_rules(sample(), facts[::-1]))
        self.assertEqual(told.table("b"), {(0, 0): 1, (0, 1): 1, (0, 2): 0, (1, 0): 1, (1, 1): 1, (1, 2): 1})


class TestRests(unittest.TestCase):
    def test_over_all_rules_that_fit(self):
        counts = {}
        for wiring, facts in cases(3):
            fitting = {name: fitting_tables(wiring, name, facts) for name in wiring.parts}
            for state in wiring.states():
                rows = [levels_of(wiring, name, state, fitting[name]) for name in wiring.parts]
                surely = all(levels == [level] for level, levels in zip(state, rows))
                may = all(level in levels for level, levels in zip(state, rows))
                self.assertIs(surely_rests(wiring, facts, state), surely)
                self.assertIs(may_rest(wiring, facts, state), may)
                counts[(surely, may)] = counts.get((surely, may), 0) + 1
        self.assertEqual(sorted(counts), [(False, False), (False, True), (True, True)])
        self.assertGreater(min(counts.values()), 20)

    def test_larger_wirings(self):
        for wiring in (full_wiring("+"), full_wiring("-", 3), six_parts()):
            facts = drawn_facts(wiring, 2, 100)
            for state in wiring.states()[::13]:
                bounds = [(least_level(wiring, facts, name, state), greatest_level(wiring, facts, name, state))
                          for name in wiring.parts]
                surely = all(one == other == level for level, (one, other) in zip(state, bounds))
                may = all(one <= level <= other for level, (one, other) in zip(state, bounds))
                self.assertIs(surely_rests(wiring, facts, state), surely)
                self.assertIs(may_rest(wiring, facts, state), may)

    def test_arguments_by_name_and_tuples(self):
        facts = (((0, 1), "b", 1), ((1, 2), "b", 1), ((1, 2), "a", 0))
        self.assertIs(surely_rests(state=(0, 1), facts=facts, wiring=sample()), True)
        self.assertIs(may_rest(state=(0, 0), facts=facts, wiring=sample()), False)
        self.assertIs(may_rest(sample(), list(facts), (0, 1)), True)


class TestErrors(unittest.TestCase):
    def test_clash_ahead_of_the_others(self):
        for facts in (CLASHING, tuple(CLASHING), [((1, 1), "a", 0), *CLASHING]):
            for call in (
                lambda: least_level(sample(), facts, "c", None), lambda: greatest_level(sample(), facts, "", [0]),
                lambda: least_level(sample(), facts, "a", (0, 0)), lambda: greatest_level(sample(), facts, "b", (0,)),
                lambda: least_rules(sample(), facts), lambda: greatest_rules(sample(), facts),
                lambda: surely_rests(sample(), facts, None), lambda: surely_rests(sample(), facts, (0, 0)),
                lambda: may_rest(sample(), facts, (0,)), lambda: may_rest(sample(), facts, (0, 0)),
            ):
                self.assertEqual(caught(Clash, call).value, (CLASHING[0], CLASHING[1]))

    def test_the_tuple_of_clash(self):
        count = 0
        for wiring in itertools.islice(small_wirings(), 0, None, 5):
            facts = drawn_facts(wiring, 1, 6)
            told = clash(wiring, facts)
            if told is not None:
                count = count + 1
                for call in (least_rules, greatest_rules):
                    self.assertEqual(caught(Clash, lambda: call(wiring, facts)).value, told)
                state = wiring.states()[0]
                for call in (surely_rests, may_rest):
                    self.assertEqual(caught(Clash, lambda: call(wiring, facts, state)).value, told)
                for call in (least_level, greatest_level):
                    error = caught(Clash, lambda: call(wiring, facts, wiring.parts[0], state))
                    self.assertEqual(error.value, told)
        self.assertGreater(count, 20)

    def test_unknown_names_ahead_of_bad_states(self):
        for name in ("", "c", "A", "ab", "a ", "abcdefg", "b\n"):
            for state in ((0, 0), None, (0,), [0, 0]):
                for call in (least_level, greatest_level):
                    error = caught(UnknownName, lambda: call(sample(), CLASHING[:1], name, state))
                    self.assertEqual(error.name, name)

    def test_bad_states(self):
        facts = [((0, 1), "b", 1)]
        for value in NO_STATES:
            with self.subTest(value=value):
                for call in (least_level, greatest_level):
                    self.assertIs(caught(BadState, lambda: call(sample(), facts, "a", value)).value, value)
                    self.assertIs(caught(BadState, lambda: call(sample(), [], "b", value)).value, value)
                for call in (surely_rests, may_rest):
                    self.assertIs(caught(BadState, lambda: call(sample(), facts, value)).value, value)
                    self.assertIs(caught(BadState, lambda: call(sample(), (), state=value)).value, value)


if __name__ == "__main__":
    unittest.main()
