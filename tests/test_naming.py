"""Points 3 and 13: what is a name."""

import string
import unittest

from surerests.naming import valid_name

# All characters of which strings that callers pass may consist (point 2).
CHARACTERS = [chr(code) for code in range(32, 127) if chr(code) != "%"] + ["\n"]


class TestValidName(unittest.TestCase):
    def test_example(self):
        told = [valid_name("valve"), valid_name("p53"), valid_name("5p"), valid_name("Valve"), valid_name("regulator")]
        self.assertEqual(told, [True, True, False, False, False])

    def test_lengths(self):
        self.assertIs(valid_name(""), False)
        for length in range(1, 7):
            self.assertIs(valid_name("a" * length), True)
            self.assertIs(valid_name("z" + "9" * (length - 1)), True)
        for length in (7, 8, 100):
            self.assertIs(valid_name("a" * length), False)

    def test_each_character_alone(self):
        for character in CHARACTERS:
            with self.subTest(character):
                self.assertIs(valid_name(character), character in string.ascii_lowercase)

    def test_each_character_first(self):
        for character in CHARACTERS:
            with self.subTest(character):
                self.assertIs(valid_name(character + "b2"), character in string.ascii_lowercase)

    def test_each_character_later(self):
        allowed = string.ascii_lowercase + string.digits
        for character in CHARACTERS:
            for at in range(1, 6):
                text = "k" * at + character + "k" * (5 - at)
                with self.subTest(text):
                    self.assertEqual(len(text), 6)
                    self.assertIs(valid_name(text), character in allowed)

    def test_newlines(self):
        for text in ("\n", "a\n", "\na", "a\nb", "abcde\n", "abcdef\n", "a\n\n"):
            with self.subTest(text):
                self.assertIs(valid_name(text), False)

    def test_by_name(self):
        self.assertIs(valid_name(text="p53"), True)
        self.assertIs(valid_name(text="P53"), False)


if __name__ == "__main__":
    unittest.main()
