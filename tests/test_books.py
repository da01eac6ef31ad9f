"""Points 11 and 61 to 63: books, their changes, and taking them back."""

import unittest

from surerests.books import Book
from surerests.errors import BadArrow, BadFact, BadNumber, BadState, Clash, NothingToUndo, UnknownName
from surerests.facts import clash, greatest_level, least_level
from surerests.verdicts import Verdict, judge
from surerests.wirings import Wiring
from tests.samples import ODD_VALUES, all_facts, caught, drawn_facts, drawn_rules, full_wiring, samples, small_wirings
from tests.samples import wired
from tests.test_clashes import NO_FACTS


def sample():
    """A book with two arrows and two facts."""
    book = Book(wired("a:1 b:2; a + b; b ? a"))
    book.put_fact((0, 1), "b", 1)
    book.put_fact((1, 2), "a", 0)
    return book


def told_by(book):
    """What a book tells of itself."""
    verdict = book.verdict()
    return [book.wiring, book.facts, verdict.kind, verdict.paper, len(book), book.history(),
            [state in book for state in book.wiring.states()]]


class BookCase(unittest.TestCase):
    def check_refused(self, book, kind, call):
        """The error that the call raises, behind which the book is as it was."""
        before = told_by(book)
        error = caught(kind, call)
        self.assertEqual(told_by(book), before)
        return error


class TestNewBooks(unittest.TestCase):
    def test_no_facts_and_no_changes(self):
        for wiring in samples():
            book = Book(wiring)
            self.assertEqual([book.wiring, book.facts, len(book), book.history()], [wiring, (), 0, []])
            self.assertEqual(Book(wiring=wiring).wiring, wiring)

    def test_verdict(self):
        wirings = [*samples(), full_wiring("+"), full_wiring("-", 3), full_wiring("?"), *small_wirings()]
        for wiring in wirings[::2]:
            verdict = Book(wiring).verdict()
            self.assertIsInstance(verdict, Verdict)
            self.assertEqual([verdict.kind, verdict.paper], [judge(wiring).kind, judge(wiring).paper])

    def test_bounds(self):
        for wiring in [*samples(), full_wiring("-", 3)]:
            book = Book(wiring)
            facts = drawn_facts(wiring, 2, 6)
            for state, name, level in facts:
                book.put_fact(state, name, level)
            for name in wiring.parts:
                for state in wiring.states()[::29]:
                    told = (least_level(wiring, facts, name, state), greatest_level(wiring, facts, name, state))
                    self.assertEqual(book.bounds(name, state), told)
                    self.assertEqual(book.bounds(state=state, name=name), told)

    def test_not_equal_to_other_values(self):
        book = Book(Wiring.read("a:1"))
        for value in [*ODD_VALUES, book.wiring, book.verdict(), 0, (book.wiring, ())]:
            self.assertIs(book == value, False)
            self.assertIs(value == book, False)

    def test_properties_cannot_be_assigned(self):
        for name in ("wiring", "facts"):
            with self.assertRaises(AttributeError):
                setattr(sample(), name, ())


class TestBounds(BookCase):
    def test_errors(self):
        book = sample()
        for name in ("", "c", "A", "ab"):
            for state in ((0, 0), None, (0,)):
                self.assertEqual(self.check_refused(book, UnknownName, lambda: book.bounds(name, state)).name, name)
        for value in [*ODD_VALUES, (0,), [0, 0], (0, 3), (True, 0), (0, 0, 0)]:
            self.assertIs(self.check_refused(book, BadState, lambda: book.bounds("a", value)).value, value)

    def test_with_the_facts_as_they_are(self):
        book = sample()
        self.assertEqual([book.bounds("b", (0, 0)), book.bounds("b", (1, 0))], [(1, 1), (1, 2)])
        book.drop_fact(0)
        self.assertEqual([book.bounds("b", (0, 0)), book.bounds("b", (1, 0))], [(0, 2), (0, 2)])
        book.undo()
        book.put_arrow("a", "b", "-")
        self.assertEqual([book.bounds("b", (0, 0)), book.bounds("b", (1, 0))], [(1, 1), (0, 1)])


class TestChanges(BookCase):
    def test_put_arrow(self):
        book = sample()
        self.assertIsNone(book.put_arrow("b", "b", "-"))
        self.assertEqual(str(book.wiring), "a:1 b:2; a + b; b ? a; b - b")
        book.put_arrow(sign="+", target="a", source="b")
        self.assertEqual(str(book.wiring), "a:1 b:2; a + b; b + a; b - b")
        book.put_arrow("b", "a", "+")
        self.assertEqual([len(book), book.verdict().kind], [5, "any"])

    def test_drop_arrow(self):
        book = sample()
        self.assertIsNone(book.drop_arrow("b", "a"))
        self.assertEqual([str(book.wiring), len(book), book.verdict().kind], ["a:1 b:2; a + b", 3, "one"])
        book.drop_arrow(target="b", source="a")
        self.assertEqual([str(book.wiring), len(book)], ["a:1 b:2", 4])

    def test_put_fact(self):
        book = sample()
        self.assertIsNone(book.put_fact((1, 0), "b", 2))
        book.put_fact(level=1, state=(0, 1), name="b")
        told = (((0, 1), "b", 1), ((1, 2), "a", 0), ((1, 0), "b", 2), ((0, 1), "b", 1))
        self.assertEqual([book.facts, len(book)], [told, 4])
        self.assertIsInstance(book.facts, tuple)

    def test_drop_fact(self):
        book = sample()
        book.put_fact((0, 0), "a", 1)
        self.assertIsNone(book.drop_fact(1))
        self.assertEqual(book.facts, (((0, 1), "b", 1), ((0, 0), "a", 1)))
        book.drop_fact(number=1)
        self.assertEqual(book.facts, (((0, 1), "b", 1),))
        book.drop_fact(0)
        self.assertEqual([book.facts, len(book)], [(), 6])

    def test_all_facts_of_a_wiring(self):
        wiring = wired("a:1 b:2; a + b; b ? a")
        for fact in all_facts(wiring):
            book = Book(wiring)
            book.put_fact(*fact)
            self.assertEqual(book.facts, (fact,))


class TestRefused(BookCase):
    def test_bad_arrows_to_put(self):
        book = sample()
        for value in [*ODD_VALUES, "c", "*", ["a"], ("a",)]:
            for told in ((value, "a", "+"), ("b", value, "-"), ("a", "b", value), (value, value, value)):
                error = self.check_refused(book, BadArrow, lambda: book.put_arrow(*told))
                self.assertEqual(error.value, told)
                self.assertIs(error.value.__class__, tuple)

    def test_bad_arrows_to_drop(self):
        book = sample()
        for value in [*ODD_VALUES, "c", ["a"], ("a",)]:
            for told in ((value, "a"), ("a", value), (value, value)):
                self.assertEqual(self.check_refused(book, BadArrow, lambda: book.drop_arrow(*told)).value, told)
        for told in (("a", "a"), ("b", "b")):
            self.assertEqual(self.check_refused(book, BadArrow, lambda: book.drop_arrow(*told)).value, told)

    def test_bad_facts(self):
        book = sample()
        count = 0
        for value in NO_FACTS:
            if isinstance(value, tuple) and len(value) == 3:
                count = count + 1
                error = self.check_refused(book, BadFact, lambda: book.put_fact(*value))
                self.assertEqual(error.value, value)
                self.assertIs(error.value.__class__, tuple)
        self.assertGreater(count, 20)
        for value in [*ODD_VALUES, (0, 3), "c"]:
            for told in ((value, "a", 0), ((0, 0), value, 0), (value, value, value)):
                self.assertEqual(self.check_refused(book, BadFact, lambda: book.put_fact(*told)).value, told)

    def test_bad_numbers(self):
        book = sample()
        for value in [*ODD_VALUES, -1, -2, 2, 3, (0,), [0], "0"]:
            self.assertIs(self.check_refused(book, BadNumber, lambda: book.drop_fact(value)).value, value)
            self.assertIs(self.check_refused(book, BadNumber, lambda: book.drop_fact(number=value)).value, value)
        empty = Book(wired("a:1"))
        for value in (0, -1, 1, None, False):
            self.assertIs(self.check_refused(empty, BadNumber, lambda: empty.drop_fact(value)).value, value)

    def test_clash_from_put_fact(self):
        book = sample()
        for fact, told in (
            (((0, 1), "b", 0), (((0, 1), "b", 1), ((0, 1), "b", 0))),
            (((0, 1), "b", 2), (((0, 1), "b", 2), ((0, 1), "b", 1))),
            (((1, 0), "b", 0), (((0, 1), "b", 1), ((1, 0), "b", 0))),
            (((0, 2), "a", 1), (((0, 2), "a", 1), ((1, 2), "a", 0))),
        ):
            self.assertEqual(self.check_refused(book, Clash, lambda: book.put_fact(*fact)).value, told)

    def test_clash_from_put_arrow(self):
        book = Book(wired("a:1 b:1; a ? b; b - b"))
        book.put_fact((0, 0), "b", 1)
        book.put_fact((1, 0), "b", 0)
        told = (((0, 0), "b", 1), ((1, 0), "b", 0))
        self.assertEqual(self.check_refused(book, Clash, lambda: book.put_arrow("a", "b", "+")).value, told)
        book.put_arrow("a", "b", "-")
        self.assertEqual(self.check_refused(book, Clash, lambda: book.put_arrow("a", "b", "+")).value, told)

    def test_clash_from_drop_arrow(self):
        book = Book(wired("a:1 b:1; a - b; b - b"))
        book.put_fact((1, 1), "b", 0)
        book.put_fact((0, 1), "b", 1)
        told = (((0, 1), "b", 1), ((1, 1), "b", 0))
        self.assertEqual(self.check_refused(book, Clash, lambda: book.drop_arrow("a", "b")).value, told)
        book.drop_arrow("b", "b")
        book.drop_fact(0)
        book.drop_arrow("a", "b")
        self.assertEqual([str(book.wiring), len(book)], ["a:1 b:1", 5])

    def test_clash_behind_the_other_errors(self):
        book = sample()
        self.check_refused(book, BadFact, lambda: book.put_fact((0, 1), "b", 3))
        self.check_refused(book, BadArrow, lambda: book.drop_arrow("a", "c"))
        self.check_refused(book, BadArrow, lambda: book.put_arrow("a", "b", "!"))

    def test_never_do_two_facts_clash(self):
        for wiring in samples():
            book = Book(wiring)
            for fact in drawn_facts(wiring, 3, 20):
                expected = clash(wiring, [*book.facts, fact])
                if expected is None:
                    book.put_fact(*fact)
                else:
                    self.assertEqual(self.check_refused(book, Clash, lambda: book.put_fact(*fact)).value, expected)
                self.assertIsNone(clash(wiring, book.facts))


class TestUndo(BookCase):
    def test_every_kind_of_change(self):
        for change in (
            lambda book: book.put_arrow("a", "a", "-"), lambda book: book.put_arrow("b", "a", "-"),
            lambda book: book.put_arrow("a", "b", "+"), lambda book: book.drop_arrow("b", "a"),
            lambda book: book.put_fact((0, 0), "a", 1), lambda book: book.drop_fact(0), lambda book: book.drop_fact(1),
        ):
            book = sample()
            before = told_by(book)
            change(book)
            self.assertEqual(len(book), 3)
            self.assertIsNone(book.undo())
            self.assertEqual(told_by(book), before)

    def test_down_to_the_first_one(self):
        book = Book(wired("a:1 b:2; a + b; b ? a"))
        rows = [told_by(book)]
        for change in (
            lambda: book.put_fact((0, 1), "b", 1), lambda: book.put_arrow("a", "a", "-"),
            lambda: book.put_fact((1, 2), "a", 0), lambda: book.drop_arrow("b", "a"),
            lambda: book.put_arrow("b", "a", "+"), lambda: book.drop_fact(0), lambda: book.drop_fact(0),
            lambda: book.put_fact((0, 0), "b", 0), lambda: book.drop_arrow("a", "b"),
        ):
            change()
            rows.append(told_by(book))
        self.assertEqual(len(book), 9)
        for told in reversed(rows):
            self.assertEqual(told_by(book), told)
            if len(book):
                book.undo()
        for _ in range(3):
            error = self.check_refused(book, NothingToUndo, book.undo)
            self.assertEqual(vars(error), {})
        book.put_fact((0, 1), "b", 1)
        self.assertEqual(told_by(book), rows[1])
        book.undo()
        self.check_refused(book, NothingToUndo, book.undo)

    def test_undo_is_no_change(self):
        book = sample()
        book.undo()
        self.assertEqual([len(book), book.facts], [1, (((0, 1), "b", 1),)])
        book.undo()
        self.assertEqual([len(book), book.facts], [0, ()])

    def test_refused_calls_are_no_changes(self):
        book = sample()
        for kind, call in (
            (Clash, lambda: book.put_fact((0, 1), "b", 0)), (BadFact, lambda: book.put_fact((0, 1), "b", 9)),
            (BadNumber, lambda: book.drop_fact(2)), (BadArrow, lambda: book.drop_arrow("b", "b")),
            (BadArrow, lambda: book.put_arrow("a", "a", "")),
        ):
            self.check_refused(book, kind, call)
        self.assertEqual(len(book), 2)
        book.undo()
        self.assertEqual(book.facts, (((0, 1), "b", 1),))

    def test_a_change_that_leaves_all_as_it_is(self):
        book = sample()
        book.put_arrow("a", "b", "+")
        self.assertEqual([str(book.wiring), len(book)], ["a:1 b:2; a + b; b ? a", 3])
        book.undo()
        self.assertEqual(told_by(book), told_by(sample()))


class TestWiringsOfSixParts(BookCase):
    def test_all_facts_by_some_rules(self):
        for wiring in (full_wiring("+"), full_wiring("?")):
            rules = drawn_rules(wiring, 3)
            book = Book(wiring)
            for state in wiring.states():
                for name, level in zip(wiring.parts, rules.next(state)):
                    book.put_fact(state, name, level)
            self.assertEqual(len(book), 6 * 64)
            for state in wiring.states():
                self.assertIs(state in book, rules.rests(state))
                for name, level in zip(wiring.parts, rules.next(state)):
                    self.assertEqual(book.bounds(name, state), (level, level))
                    if level == 0:
                        told = caught(Clash, lambda: book.put_fact(state, name, 1)).value
                        self.assertEqual(told[0][1:], (name, 1))

    def test_changes(self):
        for sign in "+-?":
            book = Book(full_wiring(sign))
            for fact in drawn_facts(full_wiring(sign), 4, 40):
                book.put_fact(*fact)
            before = told_by(book)
            book.put_arrow("a", "f", sign)
            book.put_fact(*book.facts[-1])
            book.drop_fact(3)
            book.put_arrow("c", "d", "?")
            self.assertEqual([len(book), book.verdict().kind], [44, "any"])
            for _ in range(4):
                book.undo()
            self.assertEqual(told_by(book), before)


if __name__ == "__main__":
    unittest.main()
