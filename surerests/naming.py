"""What counts as a name."""

LETTERS = "abcdefghijklmnopqrstuvwxyz"
DIGITS = "0123456789"
LONGEST = 6


def valid_name(text):
    """True if the string is a name, False otherwise."""
    if not 1 <= len(text) <= LONGEST:
        return False
    return text[0] in LETTERS and all([_stands_in_name(character) for character in text])


def _stands_in_name(character):
    return character in LETTERS or character in DIGITS
