"""Points 9, 10 and 58 to 60: verdicts of wirings, and papers that show them."""

import copy
import itertools
import unittest

from surerests.existence import no_rest
from surerests.rings import order_of
from surerests.rules import Rules, lowest_rules
from surerests.uniques import two_rests
from surerests.verdicts import Verdict, check_verdict, judge
from surerests.wirings import Wiring
from tests.samples import ODD_VALUES, full_wiring, long_rings, rests_of, ringless, rings_with, rules_of, samples
from tests.samples import small_wirings, wired, wirings_of

ONE = wired("a:1 b:2 c:1; c + a; c - b; b ? a")
AT_MOST = wired("a:1 b:2; a + b; b - a")
AT_LEAST = wired("a:1 b:2; a - b; b - a; b + b")
ANY = wired("a:1 b:2; a + b; b - a; b ? b")
KINDS = [("one", ONE), ("at most", AT_MOST), ("at least", AT_LEAST), ("any", ANY)]


def kind_of(wiring):
    """The kind, by point 58."""
    even, odd = rings_with(wiring, 0), rings_with(wiring, 1)
    if odd:
        return "any" if even else "at most"
    return "at least" if even else "one"


def paper_of(wiring):
    """The paper, by point 59."""
    kind = kind_of(wiring)
    if kind == "one":
        return order_of(wiring)
    if kind == "at most":
        return no_rest(wiring)
    if kind == "at least":
        return two_rests(wiring)
    return no_rest(wiring), two_rests(wiring)


def many_wirings():
    return [
        *small_wirings(), *samples(), *ringless({"c": 2, "a": 1, "b": 3}), *itertools.islice(long_rings(), 0, None, 9),
        *[full_wiring(sign, top) for sign in "+-?" for top in (1, 3)],
    ]


class TestJudge(unittest.TestCase):
    def test_kinds_and_papers(self):
        counts = {}
        for wiring in many_wirings():
            verdict = judge(wiring)
            self.assertIsInstance(verdict, Verdict)
            self.assertEqual(verdict.kind, kind_of(wiring), str(wiring))
            self.assertEqual(verdict.paper, paper_of(wiring))
            self.assertIs(check_verdict(wiring, verdict), True)
            self.assertEqual(judge(wiring=wiring).paper, verdict.paper)
            counts[verdict.kind] = counts.get(verdict.kind, 0) + 1
        self.assertEqual(sorted(counts), ["any", "at least", "at most", "one"])
        self.assertGreater(min(counts.values()), 50)

    def test_the_four_kinds(self):
        for kind, wiring in KINDS:
            self.assertEqual(judge(wiring).kind, kind)
        self.assertEqual(judge(ONE).paper, ("c", "b", "a"))
        self.assertEqual([len(judge(AT_LEAST).paper), len(judge(ANY).paper)], [3, 2])

    def test_over_all_rules(self):
        for wiring in [*wirings_of({"a": 1}), *wirings_of({"a": 3}), *wirings_of({"a": 1, "b": 1})]:
            counts = [len(rests_of(rules)) for rules in rules_of(wiring)]
            least, most = min(counts) >= 1, max(counts) <= 1
            told = {(True, True): "one", (False, True): "at most", (True, False): "at least", (False, False): "any"}
            self.assertEqual(judge(wiring).kind, told[(least, most)], str(wiring))


class TestCheckVerdict(unittest.TestCase):
    def test_verdicts_of_other_wirings(self):
        for (kind, wiring), (other, another) in itertools.product(KINDS, repeat=2):
            told = check_verdict(wiring, judge(another))
            self.assertIs(told, kind == other)
        for kind, wiring in KINDS[1:]:
            higher = Wiring.read(str(wiring).replace("b:2", "b:3"))
            for another in (wiring.with_arrow("a", "a", "-"), higher, wiring.mirrored().with_arrow("b", "b", "?")):
                self.assertIs(check_verdict(another, judge(wiring)), False)
                self.assertIs(check_verdict(another, judge(another)), True)

    def test_other_kinds_with_a_right_paper(self):
        for kind, wiring in KINDS:
            paper = judge(wiring).paper
            for other in ("one", "at most", "at least", "any", "", "One", "any ", "none"):
                self.assertIs(check_verdict(wiring, Verdict(other, paper)), other == kind)
                self.assertIs(check_verdict(verdict=Verdict(other, paper), wiring=wiring), other == kind)

    def test_papers_of_one(self):
        for value, told in (
            (("c", "b", "a"), True), (("b", "c", "a"), False), (("c", "a", "b"), False), (("a", "b", "c"), False),
            (["c", "b", "a"], False), (("c", "b"), False), (("c", "b", "a", "a"), False), (("c", "c", "b", "a"), False),
            (("c", "b", "b"), False), (("c", "b", "d"), False), (("c", "b", "a", "d"), False), ("cba", False),
            ((), False), (("c", "b", ["a"]), False), (("c", "b", None), False), ((("c",), "b", "a"), False),
            (("c", "b", lowest_rules(ONE)), False), (lowest_rules(ONE), False), ({"c": 1, "b": 1, "a": 1}, False),
        ):
            self.assertIs(check_verdict(ONE, Verdict("one", value)), told, value)
        plain = wired("a:1 b:1 c:1; a + b")
        for order in itertools.permutations("abc"):
            told = order.index("a") < order.index("b")
            self.assertIs(check_verdict(plain, Verdict("one", order)), told)

    def test_papers_of_at_most(self):
        for rules in rules_of(AT_MOST):
            self.assertIs(check_verdict(AT_MOST, Verdict("at most", rules)), rests_of(rules) == [])
        other = no_rest(AT_MOST.with_arrow("a", "a", "+"))
        for value in (other, lowest_rules(AT_MOST), (no_rest(AT_MOST),), [no_rest(AT_MOST)], "no_rest", AT_MOST.parts):
            self.assertIs(check_verdict(AT_MOST, Verdict("at most", value)), False)

    def test_papers_of_at_least(self):
        rules, one, other = two_rests(AT_LEAST)
        moving = [state for state in AT_LEAST.states() if state not in rests_of(rules)][0]
        for value, told in (
            ((rules, one, other), True), ((rules, other, one), True), ((rules, one, one), False),
            ((rules, one, moving), False), ((rules, moving, one), False), ([rules, one, other], False),
            ((rules, one), False), ((rules, one, other, other), False), ((one, other, rules), False),
            ((rules, list(one), other), False), ((rules, one, rules), False), ((rules, rules, rules), False),
            ((rules, rules, other), False), ((lowest_rules(AT_LEAST), one, other), False), (rules, False), ((), False),
            ((None, one, other), False), (([rules], one, other), False), (((rules,), one, other), False),
            ((str(AT_LEAST), one, other), False), ((rules, (one,), other), False), ((rules, one, None), False),
            ((rules, (rules, 0), other), False), ({0: rules, 1: one, 2: other}, False), ((rules, (one, other)), False),
        ):
            self.assertIs(check_verdict(AT_LEAST, Verdict("at least", value)), told)
        another = two_rests(AT_LEAST.with_arrow("a", "a", "+"))
        self.assertIs(check_verdict(AT_LEAST, Verdict("at least", another)), False)

    def test_papers_of_any(self):
        most, least = judge(ANY).paper
        for value, told in (
            ((most, least), True), ((least, most), False), ([most, least], False), ((most,), False), (most, False),
            ((most, least, least), False), ((least[0], least), False), ((most, (most, *least[1:])), False),
            ((most, list(least)), False), ((most, most), False), ((least, least), False), (least, False), ((), False),
            ((most, (least[0], least[2], least[1])), True), ((None, least), False), ((most, None), False),
            (((most,), least), False), ((most, (least,)), False), ((most, least[0]), False), ((most, *least), False),
        ):
            self.assertIs(check_verdict(ANY, Verdict("any", value)), told)

    def test_any_values_as_kinds_and_papers(self):
        for kind, wiring in KINDS:
            rules, paper = lowest_rules(wiring), judge(wiring).paper
            more = [rules, (rules,), (rules, rules), (rules, rules, rules), [rules], [[rules]], (rules, (rules, 1, 2)),
                    {"a": rules}, ((rules,), (rules,)), (rules, ((0, 0), (1, 1)))]
            for value in ODD_VALUES + more:
                self.assertIs(check_verdict(wiring, Verdict(kind, value)), False, (kind, value))
                self.assertIs(check_verdict(wiring, Verdict(value, paper)), False)
                self.assertIs(check_verdict(wiring, Verdict(value, value)), False)
            for value in ([kind], (kind,), {kind: kind}):
                self.assertIs(check_verdict(wiring, Verdict(value, paper)), False)


class TestVerdict(unittest.TestCase):
    def test_any_values_are_kept(self):
        rules = lowest_rules(AT_MOST)
        for value in [*ODD_VALUES, rules, (rules, [rules, {"a": [rules]}]), {(1, 2): [rules]}]:
            self.assertEqual(Verdict(value, 1).kind, value)
            self.assertEqual(Verdict("one", value).paper, value)
            self.assertIs(Verdict("one", value).paper.__class__, value.__class__)
            self.assertEqual(Verdict(paper=value, kind="any").paper, value)

    def test_lists_and_dicts_are_copied(self):
        value = [[1, [2]], ({"a": [3]}, [4]), {"b": {"c": [5]}}]
        before = copy.deepcopy(value)
        verdict = Verdict(value, value)
        value[0][1].append(9)
        value[1][0]["a"].append(9)
        value[1][1].clear()
        value[2]["b"]["c"][0] = 9
        value[2]["d"] = 9
        value.append(9)
        self.assertEqual([verdict.kind, verdict.paper], [before, before])

    def test_lists_and_dicts_told_are_new(self):
        value = [[1, [2]], ({"a": [3]}, [4]), {"b": {"c": [5]}}]
        verdict = Verdict(value, (value, value))
        for told in (verdict.kind, verdict.paper[0], verdict.paper[1]):
            told[0][1].append(9)
            told[1][0]["a"].append(9)
            told[1][1].clear()
            told[2]["b"]["c"][0] = 9
            told.clear()
        self.assertEqual([verdict.kind, verdict.paper], [value, (value, value)])
        self.assertIsNot(verdict.kind, verdict.kind)

    def test_not_equal_to_other_values(self):
        verdict = judge(ONE)
        for value in [*ODD_VALUES, "one", verdict.paper, ("one", verdict.paper), ONE, lowest_rules(ONE)]:
            self.assertIs(verdict == value, False)
            self.assertIs(value == verdict, False)
            self.assertIs(verdict != value, True)

    def test_rules_in_a_paper(self):
        rules = no_rest(AT_MOST)
        self.assertIsInstance(Verdict("at most", rules).paper, Rules)
        self.assertEqual(Verdict("at most", rules).paper, rules)


if __name__ == "__main__":
    unittest.main()
