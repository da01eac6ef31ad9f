"""Point 19: the text of a wiring, and reading it."""

import itertools
import re
import unittest

from surerests.errors import BadText
from surerests.wirings import Wiring
from tests.samples import SAMPLE_TEXTS, caught, samples

NAME = "[a-z][a-z0-9]{0,5}"
SHAPE = re.compile(f"({NAME}:[123](?: {NAME}:[123])*)((?:; {NAME} [-+?] {NAME})*)")


def is_text(text):
    """True if this is the text of a wiring, found in another way than by the program."""
    match = SHAPE.fullmatch(text)
    if match is None:
        return False
    heads = [head.split(":") for head in match[1].split(" ")]
    names = [name for name, _ in heads]
    pairs = [tuple(arrow.split(" "))[::2] for arrow in match[2].split("; ")[1:]]
    states = 1
    for _, top in heads:
        states *= int(top) + 1
    return (
        names == sorted(set(names))
        and pairs == sorted(set(pairs))
        and all(name in names for pair in pairs for name in pair)
        and len(names) <= 6
        and states <= 256
    )


def all_small_wirings():
    places = [("a", "a"), ("a", "b"), ("b", "a"), ("b", "b")]
    for tops in itertools.product((1, 2, 3), repeat=2):
        for signs in itertools.product(["", "+", "-", "?"], repeat=4):
            arrows = [(*place, sign) for place, sign in zip(places, signs) if sign]
            yield Wiring(dict(zip("ab", tops)), arrows)


def changed_by_one_character(text):
    for at in range(len(text) + 1):
        yield text[:at] + text[at + 1:]
        yield text[:at] + text[at + 1:at + 2] + text[at:at + 1] + text[at + 2:]
        for character in "abcA012349 :;+-?*,_~\n":
            yield text[:at] + character + text[at:]
            yield text[:at] + character + text[at + 1:]


class TestText(unittest.TestCase):
    def test_texts(self):
        self.assertEqual(str(Wiring({"a": 1}, [])), "a:1")
        self.assertEqual(str(Wiring({"b": 3, "a": 2}, [])), "a:2 b:3")
        self.assertEqual(str(Wiring({"a": 1}, [("a", "a", "?")])), "a:1; a ? a")
        arrows = [("b", "b", "?"), ("b", "a", "-"), ("a", "b", "+")]
        self.assertEqual(str(Wiring({"b": 1, "a": 1}, arrows)), "a:1 b:1; a + b; b - a; b ? b")

    def test_example_of_the_point(self):
        text = "a:1 b:2; a + b; b - a; b ? b"
        wiring = Wiring.read(text)
        self.assertEqual(wiring.parts, ("a", "b"))
        self.assertEqual([wiring.top("a"), wiring.top("b")], [1, 2])
        self.assertEqual(wiring.arrows, (("a", "b", "+"), ("b", "a", "-"), ("b", "b", "?")))
        self.assertEqual(str(wiring), text)

    def test_most_parts_and_arrows(self):
        arrows = [(source, target, "?") for source in "abcdef" for target in "abcdef"]
        wiring = Wiring({name: 1 for name in "fedcba"}, arrows)
        text = "a:1 b:1 c:1 d:1 e:1 f:1" + "".join(f"; {source} ? {target}" for source, target, _ in arrows)
        self.assertEqual(str(wiring), text)
        self.assertEqual(Wiring.read(text), wiring)

    def test_each_the_inverse_of_the_other(self):
        for wiring in samples():
            self.assertEqual(Wiring.read(str(wiring)), wiring)
        for text in SAMPLE_TEXTS:
            self.assertEqual(str(Wiring.read(text)), text)

    def test_all_small_wirings(self):
        texts = []
        for wiring in all_small_wirings():
            texts.append(str(wiring))
            self.assertTrue(is_text(texts[-1]))
            self.assertEqual(Wiring.read(texts[-1]), wiring)
        self.assertEqual(len(set(texts)), 9 * 4 ** 4)

    def test_by_name(self):
        self.assertEqual(str(Wiring.read(text="a:1; a + a")), "a:1; a + a")


class TestBadText(unittest.TestCase):
    def refuse(self, text):
        self.assertFalse(is_text(text))
        error = caught(BadText, lambda: Wiring.read(text))
        self.assertIs(error.text, text)

    def test_no_parts(self):
        for text in ["", " ", "\n", ";", "; ", ":", "a", "a:", ":1", "1", "; a + a", " a:1", "a:1 ", "\na:1", "a:1\n"]:
            with self.subTest(text):
                self.refuse(text)

    def test_names_and_tops(self):
        for text in [
            "A:1",
            "1:1",
            "abcdefg:1",
            "a:0",
            "a:4",
            "a:01",
            "a:1.",
            "a:+1",
            "a:-1",
            "a:11",
            "a:" + "1" * 5000,
            "a:b",
            "a::1",
            "a:1:1",
            "a: 1",
            "a :1",
            "a:1\nb:1",
        ]:
            with self.subTest(text):
                self.refuse(text)

    def test_parts(self):
        for text in [
            "b:1 a:1",
            "a:1 a:1",
            "a:1 a:2",
            "a:2 a:1 b:1",
            "a:1  b:1",
            "a:1,b:1",
            "a:1; b:1",
            "a:1 b",
            "a:1 b:1 ",
            "a:1 b:1 c:1 d:1 e:1 f:1 g:1",
            "a:3 b:3 c:3 d:3 e:1",
            "a:3 b:3 c:3 d:3 e:3 f:3",
        ]:
            with self.subTest(text):
                self.refuse(text)

    def test_arrows(self):
        for text in [
            "a:1;",
            "a:1; ",
            "a:1;a + a",
            "a:1;  a + a",
            "a:1 ; a + a",
            "a:1, a + a",
            "a:1; a+a",
            "a:1; a  + a",
            "a:1; a +  a",
            "a:1; a + a ",
            "a:1; a + a\n",
            "a:1; a + a;",
            "a:1; a + a; ",
            "a:1; a + a; a + a",
            "a:1; a + a; a - a",
            "a:1; a + b",
            "a:1; b + a",
            "a:1; a * a",
            "a:1; a +- a",
            "a:1; a a",
            "a:1; a + a a",
            "a:1; a + a + a",
            "a:1; + a a",
            "a:1; a a +",
            "a:1; A + a",
            "a:1; ; a + a",
            "a:1 b:1; b + a; a + b",
            "a:1 b:1; a + b; a + a",
            "a:1 b:1; a - b; b + a; a + b",
            "a:1 b:1; a + b b + a",
            "a:1; a + a b:1",
            "a:1; a + a; b:1",
        ]:
            with self.subTest(text):
                self.refuse(text)

    def test_texts_changed_by_one_character(self):
        good = 0
        for sample in ["a:1", "a:1 b:2; a + b; b - a", "a1:3 b:1; b ? a1", "a:3 b:3 c:3 d:3; a + d"]:
            for text in changed_by_one_character(sample):
                if is_text(text):
                    good += 1
                    self.assertEqual(str(Wiring.read(text)), text)
                else:
                    self.refuse(text)
        self.assertGreater(good, 50)

    def test_parts_and_arrows_in_other_orders(self):
        good = 0
        for heads in itertools.permutations(["a:1", "a2:2", "b:3"]):
            for tails in itertools.permutations(["a + a", "a - b", "a2 ? a", "b + a"]):
                text = "; ".join([" ".join(heads), *tails])
                if is_text(text):
                    good += 1
                    self.assertEqual(str(Wiring.read(text)), text)
                else:
                    self.refuse(text)
        self.assertEqual(good, 1)


if __name__ == "__main__":
    unittest.main()
