"""Points 64 to 67: what a book would say, what it says of states, its history, and books against new ones."""

import random
import unittest

from surerests.books import Book
from surerests.errors import BadArrow, BadFact, BadNumber, Clash, NothingToUndo, RestError
from surerests.facts import may_rest
from surerests.rules import lowest_rules
from surerests.verdicts import Verdict, judge
from tests.samples import ODD_VALUES, caught, clash_of, drawn_facts, full_wiring, samples, wired
from tests.test_books import BookCase, sample, told_by


def change_by(book, change):
    """Makes the change that the tuple stands for, by point 64."""
    calls = {
        "arrow": book.put_arrow, "drop arrow": book.drop_arrow, "fact": book.put_fact, "drop fact": book.drop_fact,
    }
    calls[change[0]](*change[1:])


def drawn_change(draw, book):
    """Some change, often one that is refused."""
    parts = [*book.wiring.parts, "x"]
    word = draw.choice(["arrow", "drop arrow", "fact", "fact", "fact", "drop fact"])
    if word == "arrow":
        return word, draw.choice(parts), draw.choice(parts[:-1]), draw.choice("++--??!")
    if word == "drop arrow":
        return word, draw.choice(parts), draw.choice(parts[:-1])
    if word == "drop fact":
        return word, draw.randint(-1, len(book.facts) + 1)
    name = draw.choice(parts[:-1])
    return word, draw.choice(book.wiring.states()), name, draw.randint(0, book.wiring.top(name) + draw.randint(0, 1))


class TestTried(BookCase):
    def check(self, book, changes):
        """The verdict, or the error, of a book in which all these changes are made; both are as they were behind it."""
        before = told_by(book)
        other = Book(book.wiring)
        for state, name, level in book.facts:
            other.put_fact(state, name, level)
        kind = None
        try:
            for change in changes:
                change_by(other, change)
        except RestError as error:
            kind, told = error.__class__, vars(error)
        if kind is None:
            verdict = book.tried(changes)
            self.assertIsInstance(verdict, Verdict)
            self.assertEqual([verdict.kind, verdict.paper], [judge(other.wiring).kind, judge(other.wiring).paper])
        else:
            self.assertEqual(vars(caught(kind, lambda: book.tried(changes))), told)
        self.assertEqual(told_by(book), before)
        return kind

    def test_changes_of_every_kind(self):
        book = sample()
        for changes, kind in (
            ([], "any"), ([("drop arrow", "b", "a")], "one"), ([("arrow", "b", "a", "+")], "at least"),
            ([("arrow", "b", "a", "-")], "at most"), ([("drop fact", 1), ("drop fact", 0)], "any"),
            ([("fact", (0, 0), "a", 1), ("arrow", "b", "a", "-"), ("drop fact", 2)], "at most"),
            ([("drop arrow", "b", "a"), ("arrow", "a", "a", "-"), ("drop arrow", "a", "b")], "at most"),
        ):
            for told in (changes, tuple(changes)):
                self.assertEqual(book.tried(told).kind, kind)
                self.assertEqual(book.tried(changes=told).kind, kind)
                self.assertIsNone(self.check(book, told))

    def test_changes_that_are_refused(self):
        book = sample()
        first = [("drop arrow", "b", "a"), ("fact", (0, 0), "a", 1)]
        for change, kind in (
            (("arrow", "a", "x", "+"), BadArrow), (("arrow", "a", "b", "-+"), BadArrow),
            (("drop arrow", "b", "b"), BadArrow), (("fact", (0, 0), "b", 3), BadFact),
            (("fact", [0, 0], "b", 1), BadFact), (("drop fact", 2), BadNumber),
            (("drop fact", -1), BadNumber), (("drop fact", True), BadNumber), (("fact", (0, 1), "b", 0), Clash),
            (("fact", (1, 0), "b", 0), Clash),
        ):
            self.assertEqual(self.check(book, [change]), kind)
            self.assertEqual(self.check(book, [change, None, ("drop fact", 0)]), kind)
            self.assertEqual(self.check(book, [("arrow", "a", "a", "+"), change, ("drop fact", 7)]), kind)
        self.assertEqual(self.check(book, first), Clash)
        self.assertEqual(self.check(book, first[::-1]), Clash)

    def test_changes_one_after_the_other(self):
        book = sample()
        # The number of a fact that is put by an earlier change, and an arrow that one has dropped.
        self.assertIsNone(self.check(book, [("fact", (0, 0), "a", 1), ("drop fact", 2)]))
        self.assertEqual(self.check(book, [("drop fact", 0), ("drop fact", 1)]), BadNumber)
        self.assertEqual(self.check(book, [("drop arrow", "a", "b"), ("drop arrow", "a", "b")]), BadArrow)
        self.assertIsNone(self.check(book, [("drop fact", 0), ("fact", (0, 1), "b", 0)]))

    def test_undo_behind_it(self):
        book = sample()
        book.tried([("drop fact", 0), ("drop fact", 0), ("arrow", "a", "a", "-")])
        caught(BadNumber, lambda: book.tried([("drop fact", 0), ("drop fact", 1)]))
        book.undo()
        self.assertEqual([book.facts, len(book)], [(((0, 1), "b", 1),), 1])
        book.undo()
        caught(NothingToUndo, book.undo)
        new = Book(wired("a:1 b:1; a + b"))
        new.tried([("arrow", "b", "a", "+")])
        caught(NothingToUndo, new.undo)

    def test_the_list_stays_as_it_is(self):
        changes = [("drop fact", 0), ("arrow", "a", "a", "-")]
        sample().tried(changes)
        self.assertEqual(changes, [("drop fact", 0), ("arrow", "a", "a", "-")])

    def test_drawn_changes(self):
        draw = random.Random(7)
        kinds = {}
        for wiring in [*samples(), wired("a:1 b:2; a + b; b ? a"), full_wiring("-")] * 4:
            book = Book(wiring)
            for fact in drawn_facts(wiring, 2, 4):
                book.put_fact(*fact)
            for many in (1, 2, 3, 5):
                kinds[self.check(book, [drawn_change(draw, book) for _ in range(many)])] = True
        self.assertGreaterEqual(set(kinds), {None, BadArrow, BadFact, BadNumber, Clash})


class TestContains(BookCase):
    def test_states(self):
        for wiring in [*samples(), wired("a:1 b:2; a + b; b ? a"), full_wiring("+"), full_wiring("-", 3)]:
            for many in (0, 3, 12):
                book = Book(wiring)
                facts = drawn_facts(wiring, 2, many)
                for fact in facts:
                    book.put_fact(*fact)
                for state in wiring.states()[::5]:
                    self.assertIs(state in book, may_rest(wiring, facts, state))
                    self.assertIs(state not in book, not may_rest(wiring, facts, state))

    def test_with_the_facts_as_they_are(self):
        book = sample()
        # By the facts, b goes to 1 at least behind a low b, and a to 0 behind (1, 2).
        self.assertEqual([state for state in book.wiring.states() if state in book], [(0, 1), (1, 1)])
        book.put_fact((1, 1), "a", 0)
        self.assertEqual([state for state in book.wiring.states() if state in book], [(0, 1)])
        book.undo()
        book.drop_fact(1)
        self.assertIs((1, 2) in book, True)
        book.undo()
        self.assertIs((1, 2) in book, False)
        book.drop_arrow("b", "a")
        self.assertIs((1, 1) in book, False)

    def test_any_values(self):
        book = sample()
        more = [(0,), (0, 0, 0), [0, 1], (0, 3), (2, 0), (0, True), (False, 1), ("0", "1"), ([], 1), "01", {0: 0, 1: 1},
                lowest_rules(book.wiring), book, (0, (1,)), (-1, 1)]
        for value in ODD_VALUES + more:
            self.assertIs(value in book, False)
            self.assertIs(value in Book(wired("a:1 b:2")), False)
        self.assertEqual(told_by(book), told_by(sample()))


class TestHistory(BookCase):
    def test_changes_in_order(self):
        book = Book(wired("a:1 b:2; a + b; b ? a"))
        changes = [
            ("fact", (0, 1), "b", 1), ("arrow", "a", "a", "-"), ("fact", (1, 2), "a", 0), ("drop arrow", "b", "a"),
            ("arrow", "b", "a", "+"), ("drop fact", 0), ("fact", (0, 0), "b", 0), ("drop fact", 1),
        ]
        for place, change in enumerate(changes):
            change_by(book, change)
            self.assertEqual(book.history(), changes[:place + 1])
            self.assertEqual([row.__class__ for row in book.history()], [tuple] * (place + 1))
        caught(BadNumber, lambda: book.drop_fact(9))
        self.assertEqual(book.history(), changes)
        for place in reversed(range(len(changes))):
            book.undo()
            self.assertEqual(book.history(), changes[:place])

    def test_taken_back_and_made_again(self):
        book = sample()
        book.undo()
        book.put_arrow(sign="-", source="b", target="b")
        self.assertEqual(book.history(), [("fact", (0, 1), "b", 1), ("arrow", "b", "b", "-")])

    def test_the_list_is_new(self):
        book = sample()
        book.history().clear()
        book.history().append(None)
        self.assertEqual([len(book.history()), len(book)], [2, 2])

    def test_a_new_book_by_the_history(self):
        book = sample()
        book.put_arrow("b", "b", "+")
        book.drop_fact(0)
        other = Book(wired("a:1 b:2; a + b; b ? a"))
        self.assertEqual(other.tried(book.history()).kind, book.verdict().kind)
        for change in book.history():
            change_by(other, change)
        self.assertEqual(told_by(other), told_by(book))


class TestLongSequences(BookCase):
    def check_like_a_new_one(self, book, draw):
        other = Book(type(book.wiring).read(str(book.wiring)))
        for state, name, level in book.facts:
            other.put_fact(state, name, level)
        self.assertEqual([book.wiring, book.facts], [other.wiring, other.facts])
        self.assertEqual([book.verdict().kind, book.verdict().paper], [other.verdict().kind, other.verdict().paper])
        states = book.wiring.states()
        for state in draw.sample(states, min(len(states), 4)):
            self.assertEqual(state in book, state in other)
            for name in book.wiring.parts:
                self.assertEqual(book.bounds(name, state), other.bounds(name, state))

    def test_like_a_new_book_with_these_facts(self):
        refused = 0
        for seed, wiring in enumerate([*samples(), wired("a:1 b:2; a + b; b ? a"), wired("a:2 b:2; a - b; b + b")]):
            draw = random.Random(seed)
            book = Book(wiring)
            past = [(book.wiring, book.facts)]
            for step in range(120):
                change = drawn_change(draw, book)
                try:
                    if draw.random() < 0.15:
                        book.undo()
                        past.pop()
                    elif draw.random() < 0.2:
                        book.tried([change, drawn_change(draw, book)])
                    else:
                        change_by(book, change)
                        past.append((book.wiring, book.facts))
                except RestError:
                    refused = refused + 1
                self.assertEqual((book.wiring, book.facts), past[-1])
                self.assertEqual([len(book), len(book.history())], [len(past) - 1] * 2)
                self.assertIsNone(clash_of(book.wiring, book.facts))
                if step % 6 == 0:
                    self.check_like_a_new_one(book, draw)
            while len(book):
                book.undo()
                past.pop()
                self.assertEqual((book.wiring, book.facts), past[-1])
            self.assertEqual([book.wiring, book.facts], [wiring, ()])
        self.assertGreater(refused, 100)

    def test_six_parts(self):
        draw = random.Random(1)
        for wiring in (full_wiring("+"), full_wiring("?")):
            book = Book(wiring)
            for _ in range(40):
                try:
                    change_by(book, drawn_change(draw, book))
                except RestError:
                    pass
            self.check_like_a_new_one(book, draw)


if __name__ == "__main__":
    unittest.main()
