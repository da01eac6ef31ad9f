"""Points 17 and 18: wirings that are made from other ones, which stay as they were."""

import unittest

from surerests.errors import BadArrow, BadCount, UnknownName
from surerests.wirings import Wiring
from tests.samples import ODD_VALUES, SAMPLE_TEXTS, caught, samples

TEXT = "a:1 b:2 c:3; a + b; b - a; b ? b; c + a"


class TestWithArrow(unittest.TestCase):
    def setUp(self):
        self.wiring = Wiring.read(TEXT)

    def tearDown(self):
        self.assertEqual(str(self.wiring), TEXT)

    def test_one_more_arrow(self):
        told = str(self.wiring.with_arrow("a", "c", "-"))
        self.assertEqual(told, "a:1 b:2 c:3; a + b; a - c; b - a; b ? b; c + a")
        told = str(self.wiring.with_arrow("c", "c", "?"))
        self.assertEqual(told, "a:1 b:2 c:3; a + b; b - a; b ? b; c + a; c ? c")

    def test_another_sign(self):
        told = str(self.wiring.with_arrow("b", "a", "?"))
        self.assertEqual(told, "a:1 b:2 c:3; a + b; b ? a; b ? b; c + a")
        told = str(self.wiring.with_arrow("b", "b", "-"))
        self.assertEqual(told, "a:1 b:2 c:3; a + b; b - a; b - b; c + a")

    def test_the_same_arrow_again(self):
        for arrow in self.wiring.arrows:
            self.assertEqual(self.wiring.with_arrow(*arrow), self.wiring)

    def test_all_arrows(self):
        for wiring in samples():
            for source in wiring.parts:
                for target in wiring.parts:
                    for sign in "+-?":
                        told = wiring.with_arrow(source, target, sign)
                        others = {arrow for arrow in wiring.arrows if arrow[:2] != (source, target)}
                        self.assertEqual(told.arrows, tuple(sorted(others | {(source, target, sign)})))
                        self.assertEqual(told.sign(source, target), sign)
                        self.assertEqual(told.states(), wiring.states())

    def test_bad_arrows(self):
        for source, target, sign in [
            ("a", "d", "+"),
            ("d", "a", "+"),
            ("a", "b", "*"),
            ("a", "b", "+-"),
            ("a", "b", ""),
            ("", "b", "+"),
            ("A", "b", "+"),
            ("a", "ab", "+"),
        ]:
            error = caught(BadArrow, lambda: self.wiring.with_arrow(source, target, sign))
            self.assertEqual(error.value, (source, target, sign))

    def test_any_values(self):
        for value in ODD_VALUES:
            with self.subTest(value):
                for arrow in [("a", "b", value), ("a", value, "+"), (value, "b", "+"), (value, value, value)]:
                    error = caught(BadArrow, lambda: self.wiring.with_arrow(*arrow))
                    self.assertIs(error.value.__class__, tuple)
                    self.assertEqual(len(error.value), 3)
                    for kept, given in zip(error.value, arrow):
                        self.assertIs(kept, given)

    def test_by_name(self):
        told = self.wiring.with_arrow(sign="-", target="a", source="c")
        self.assertEqual(told, self.wiring.with_arrow("c", "a", "-"))
        self.assertEqual(told.sign("c", "a"), "-")


class TestWithoutArrow(unittest.TestCase):
    def setUp(self):
        self.wiring = Wiring.read(TEXT)

    def tearDown(self):
        self.assertEqual(str(self.wiring), TEXT)

    def test_each_arrow(self):
        for wiring in samples():
            for arrow in wiring.arrows:
                told = wiring.without_arrow(arrow[0], arrow[1])
                self.assertEqual(told.arrows, tuple(other for other in wiring.arrows if other != arrow))
                self.assertEqual(told.sign(arrow[0], arrow[1]), None)
                self.assertEqual(told.states(), wiring.states())
                self.assertEqual(told.with_arrow(*arrow), wiring)

    def test_text(self):
        self.assertEqual(str(self.wiring.without_arrow("b", "b")), "a:1 b:2 c:3; a + b; b - a; c + a")
        self.assertEqual(str(self.wiring.without_arrow(target="a", source="c")), "a:1 b:2 c:3; a + b; b - a; b ? b")

    def test_no_such_arrow(self):
        for source, target in [("a", "a"), ("a", "c"), ("d", "a"), ("a", "d"), ("", ""), ("b", "c"), ("a", "B")]:
            error = caught(BadArrow, lambda: self.wiring.without_arrow(source, target))
            self.assertEqual(error.value, (source, target))

    def test_any_values(self):
        for value in ODD_VALUES:
            with self.subTest(value):
                for pair in [("a", value), (value, "b"), (value, value)]:
                    error = caught(BadArrow, lambda: self.wiring.without_arrow(*pair))
                    self.assertIs(error.value.__class__, tuple)
                    self.assertEqual(len(error.value), 2)
                    for kept, given in zip(error.value, pair):
                        self.assertIs(kept, given)


class TestOnly(unittest.TestCase):
    def setUp(self):
        self.wiring = Wiring.read(TEXT)

    def tearDown(self):
        self.assertEqual(str(self.wiring), TEXT)

    def test_arrows_between_the_parts(self):
        told = {
            ("a",): "a:1",
            ("b",): "b:2; b ? b",
            ("c",): "c:3",
            ("a", "b"): "a:1 b:2; a + b; b - a; b ? b",
            ("a", "c"): "a:1 c:3; c + a",
            ("b", "c"): "b:2 c:3; b ? b",
            ("a", "b", "c"): TEXT,
        }
        for names, text in told.items():
            with self.subTest(names):
                self.assertEqual(str(self.wiring.only(list(names))), text)
                self.assertEqual(str(self.wiring.only(names)), text)
                self.assertEqual(str(self.wiring.only(list(names[::-1]))), text)
                self.assertEqual(str(self.wiring.only(names=list(names) + [names[0], names[0]])), text)

    def test_more_names_than_parts(self):
        self.assertEqual(self.wiring.only(["c", "a", "b"] * 5), self.wiring)

    def test_empty_list(self):
        self.assertEqual(caught(BadCount, lambda: self.wiring.only([])).count, 0)
        self.assertEqual(caught(BadCount, lambda: self.wiring.only(())).count, 0)

    def test_first_unknown_name(self):
        self.assertEqual(caught(UnknownName, lambda: self.wiring.only(["d"])).name, "d")
        self.assertEqual(caught(UnknownName, lambda: self.wiring.only(["a", "z", "d"])).name, "z")
        self.assertEqual(caught(UnknownName, lambda: self.wiring.only(["a", "d", "z", "b"])).name, "d")
        self.assertEqual(caught(UnknownName, lambda: self.wiring.only(["a", "A", "z"])).name, "A")
        self.assertEqual(caught(UnknownName, lambda: self.wiring.only([""])).name, "")

    def test_the_list_stays_as_it_is(self):
        names = ["c", "a", "c"]
        told = self.wiring.only(names)
        self.assertEqual(names, ["c", "a", "c"])
        names.append("b")
        self.assertEqual(told.parts, ("a", "c"))


class TestMirrored(unittest.TestCase):
    def test_text(self):
        self.assertEqual(str(Wiring.read(TEXT).mirrored()), "a:1 b:2 c:3; a - b; a + c; b + a; b ? b")
        self.assertEqual(str(Wiring.read("a:2").mirrored()), "a:2")

    def test_signs(self):
        for wiring in samples():
            told = wiring.mirrored()
            self.assertEqual(told.states(), wiring.states())
            for source in wiring.parts:
                for target in wiring.parts:
                    self.assertEqual(told.sign(target, source), wiring.sign(source, target))

    def test_twice_and_unchanged(self):
        for text in SAMPLE_TEXTS:
            wiring = Wiring.read(text)
            self.assertEqual(wiring.mirrored().mirrored(), wiring)
            self.assertEqual(str(wiring), text)


if __name__ == "__main__":
    unittest.main()
