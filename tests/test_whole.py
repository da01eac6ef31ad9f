"""Points 10 and 11 over the whole program: equal arguments, copies, new lists and dicts, equality."""

import copy
import importlib
import inspect
import itertools
import unittest

from surerests.books import Book
from surerests.errors import RestError
from surerests.rules import Rules, copying
from surerests.verdicts import Verdict, judge
from surerests.wirings import Wiring
from tests.samples import ODD_VALUES, drawn_facts, full_wiring, wired
from tests.test_interface import FUNCTIONS

TEXTS = [
    "a:1",
    "a:2; a ? a",
    "a:1 b:2; a + b; b + a; b - b",
    "a:1 b:2; a - b; b - a; b + b",
    "a1:1 b:2 c:1; a1 + b; b ? c; a1 - c",
    "a:1 b:1 c:1 d:1 e:1 f:1; a - d; d + a; b + c; c - b; e ? f; f + e; f - f; a + b; d - e; c + f",
]


def plain(value):
    """The value with lists, tuples and such in the place of objects, for comparing."""
    if isinstance(value, Wiring):
        return ["wiring", str(value)]
    if isinstance(value, Rules):
        return ["rules", str(value.wiring), {name: value.table(name) for name in value.wiring.parts}]
    if isinstance(value, Verdict):
        return ["verdict", plain(value.kind), plain(value.paper)]
    if isinstance(value, (list, tuple)):
        return [value.__class__.__name__, [plain(item) for item in value]]
    if isinstance(value, dict):
        return {key: plain(item) for key, item in value.items()}
    return value


def outcome(call, *told, **named):
    """What the call returns or raises, for comparing."""
    try:
        return plain(call(*told, **named))
    except RestError as error:
        return [error.__class__.__name__, plain(vars(error))]


def spoil(value):
    """Changes all lists and dicts in what was told."""
    if isinstance(value, (list, tuple)):
        for item in value:
            spoil(item)
    if isinstance(value, list):
        value.append("spoilt")
    if isinstance(value, dict):
        value["spoilt"] = 1


def turned_dict(told):
    return dict(reversed(list(told.items())))


def other_wiring(wiring):
    """An equal wiring, made in another way."""
    tops = turned_dict({name: wiring.top(name) for name in wiring.parts})
    other = Wiring(tops, [])
    for arrow in reversed(wiring.arrows):
        other = other.with_arrow(*arrow)
    other = other.mirrored().with_arrow(wiring.parts[0], wiring.parts[-1], "?").mirrored()
    source, target = wiring.parts[-1], wiring.parts[0]
    if wiring.sign(source, target) is None:
        return other.without_arrow(source, target)
    return other.with_arrow(source, target, wiring.sign(source, target))


def other_rules(rules):
    wiring = other_wiring(rules.wiring)
    return Rules(wiring, turned_dict({name: turned_dict(rules.table(name)) for name in wiring.parts}))


def other_value(value):
    """An equal value, made in another way: tuples in the place of lists, keys in another order."""
    if isinstance(value, Wiring):
        return other_wiring(value)
    if isinstance(value, Rules):
        return other_rules(value)
    if isinstance(value, Verdict):
        return Verdict(value.kind, value.paper)
    if isinstance(value, list):
        return tuple(value)
    if isinstance(value, dict):
        return turned_dict(value)
    if isinstance(value, tuple):
        return tuple(list(value))
    return value


def arguments(wiring):
    """Some values for each name of an argument, but for the wiring and the rules."""
    states, parts = wiring.states(), wiring.parts
    return {
        "state": [states[0], states[-1], None],
        "one": [states[0], states[len(states) // 2]],
        "other": [states[0], states[-1]],
        "rounds": [0, 5, -1],
        "names": [(), parts, parts[:1], list(parts)],
        "value": [parts, parts[:1], None],
        "ring": [parts, parts[:1], None],
        "sides": [{name: 0 for name in parts}, {name: at % 2 for at, name in enumerate(parts)}, {}],
        "facts": [[], drawn_facts(wiring, 2, 5), drawn_facts(wiring, 3, 6), [None]],
        "name": [parts[0], parts[-1], "x"],
        "arrows": [[], list(wiring.arrows)[:1], [(parts[0], parts[-1], "?")]],
        "shift": [1, 2],
        "verdict": [judge(wiring), Verdict("one", list(parts)), Verdict("any", ({}, []))],
        "text": ["a", "Valve"],
    }


def rules_for(wiring):
    copies = [arrow for arrow in wiring.arrows if arrow[2] != "?"]
    targets = {arrow[1]: arrow for arrow in copies}
    return [copying(wiring, list(targets.values()), 1), copying(wiring, [], 1)]


def calls():
    """Each function of the interface, with values for all of its arguments."""
    for place, functions in FUNCTIONS.items():
        for name, told in functions.items():
            function = vars(importlib.import_module(f"surerests.{place}"))[name]
            for wiring in map(wired, TEXTS):
                values = {**arguments(wiring), "wiring": [wiring], "rules": rules_for(wiring)}
                if name == "is_simpler":
                    values["one"] = values["other"] = values["arrows"]
                for row in itertools.product(*[values[word] for word in told.split()]):
                    yield name, function, row


class TestFunctions(unittest.TestCase):
    def test_equal_arguments_and_what_was_asked_before(self):
        count = 0
        for name, function, row in calls():
            with self.subTest(name):
                first = outcome(function, *row)
                others = [other_value(value) for value in row]
                if name in ("meets", "check_ring", "can_be_even", "can_be_odd"):
                    # Sets and rings are tuples: a list is not one.
                    others = [other if isinstance(other, Wiring) else value for other, value in zip(others, row)]
                self.assertEqual(outcome(function, *others), first)
                named = dict(zip(inspect.signature(function).parameters, others))
                self.assertEqual(outcome(function, **turned_dict(named)), first)
                self.assertEqual(outcome(function, *row), first)
                count = count + 1
        self.assertGreater(count, 1500)

    def test_arguments_stay_as_they_are(self):
        for name, function, row in calls():
            before = [plain(value) for value in row]
            outcome(function, *row)
            self.assertEqual([plain(value) for value in row], before, name)

    def test_what_is_told_may_be_changed(self):
        for name, function, row in calls():
            first = outcome(function, *row)
            try:
                spoil(function(*row))
            except RestError as error:
                self.assertEqual(outcome(function, *row), first, error)
            self.assertEqual(outcome(function, *row), first, name)


class TestObjects(unittest.TestCase):
    def test_wirings(self):
        for text in TEXTS:
            wiring, other = wired(text), other_wiring(wired(text))
            self.assertIs(wiring == other, True)
            self.assertEqual(plain(other), plain(wiring))
            for method, told in (("states", ()), ("mirrored", ()), ("only", (list(wiring.parts[:1]),)),
                                 ("sources", wiring.parts[:1]), ("top", ("x",)), ("sign", ("x", "y")),
                                 ("with_arrow", ([], "a", 1)), ("without_arrow", ({}, "a"))):
                first = outcome(getattr(wiring, method), *told)
                self.assertEqual(outcome(getattr(other, method), *told), first)
                if method != "top" and method != "sign" and not method.endswith("arrow"):
                    spoil(getattr(wiring, method)(*told))
                self.assertEqual(outcome(getattr(wiring, method), *told), first)
            self.assertEqual(plain(wiring), plain(other))

    def test_rules(self):
        for text in TEXTS:
            for rules in rules_for(wired(text)):
                other = other_rules(rules)
                self.assertIs(rules == other, True)
                for state in [*rules.wiring.states(), None]:
                    self.assertEqual(outcome(rules.next, state), outcome(other.next, state))
                    self.assertEqual(outcome(rules.rests, state), outcome(other.rests, state))
                spoil(rules.table(rules.wiring.parts[0]))
                outcome(rules.table, "x")
                self.assertEqual(plain(rules), plain(other))

    def test_what_is_given_is_copied(self):
        tops, arrows = {"a": 1, "b": 2}, [("a", "b", "+")]
        wiring = Wiring(tops, arrows)
        tables = {"a": {(): 1}, "b": {(0,): 0, (1,): 2}}
        rules = Rules(wiring, tables)
        paper = [[1], {"a": [2]}]
        verdict = Verdict([paper], paper)
        told = plain([wiring, rules, verdict])
        for value in (tops, arrows, tables["a"], tables["b"], tables, paper[0], paper[1]["a"], paper[1], paper):
            spoil(value)
            value.clear()
        self.assertEqual(plain([wiring, rules, verdict]), told)

    def test_objects_of_different_classes(self):
        wiring = wired("a:1; a + a")
        rules = copying(wiring, wiring.arrows, 1)
        held = [wiring, rules, judge(wiring), Book(wiring), RestError()]
        for one, other in itertools.permutations(held, 2):
            self.assertIs(one == other, False)
            self.assertIs(one != other, True)
        for one, value in itertools.product(held, [*ODD_VALUES, str(wiring), wiring.parts, rules.table("a"), 0]):
            self.assertIs(one == value, False)
            self.assertIs(value == one, False)

    def test_books(self):
        wiring = wired(TEXTS[-1])
        one, other = Book(wiring), Book(other_wiring(wiring))
        for state, name, level in drawn_facts(wiring, 2, 12):
            one.put_fact(state, name, level)
            one.tried([("drop fact", 0)])
            other.put_fact(level=level, name=name, state=tuple(list(state)))
        for state in [*wiring.states(), None, []]:
            self.assertEqual(state in one, state in other)
            for name in ("a", "f", "x"):
                self.assertEqual(outcome(one.bounds, name, state), outcome(other.bounds, name, state))
        spoil(one.history())
        spoil(one.verdict().paper)
        self.assertEqual([one.wiring, one.facts, one.history()], [other.wiring, other.facts, other.history()])
        self.assertEqual(plain(one.verdict()), plain(other.verdict()))

    def test_methods_that_name_no_result(self):
        book = Book(full_wiring("?"))
        self.assertEqual([book.put_arrow("a", "b", "+"), book.drop_arrow("a", "b"), book.put_fact((0,) * 6, "a", 1),
                          book.drop_fact(0), book.undo()], [None] * 5)


if __name__ == "__main__":
    unittest.main()
