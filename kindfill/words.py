"""Marks and names."""

LETTERS = "abcdefghijklmnopqrstuvwxyz"
FIGURES = "0123456789"
LONGEST = 6


def is_mark(text):
    """Whether a thing is a text of 1 to 6 small letters."""
    if not isinstance(text, str) or not 1 <= len(text) <= LONGEST:
        return False
    return all(sign in LETTERS for sign in text)


def is_name(text):
    """Whether a thing is a text of 1 to 6 small letters, or an x with a number from 0 to 99."""
    return is_mark(text) or is_numbered(text)


def is_numbered(text):
    """Whether a thing is an x with a number from 0 to 99 behind it."""
    if not isinstance(text, str) or len(text) not in (2, 3) or text[0] != "x":
        return False
    # A nought stands ahead of no other figure.
    if text[1] == "0" and len(text) == 3:
        return False
    return all(sign in FIGURES for sign in text[1:])
