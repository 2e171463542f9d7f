"""The rows of words that a desk is told."""

from kindfill.errors import NoRow
from kindfill.words import FIGURES

# Rows that end in a text, of whatever many words; and how many words the others may have.
TEXTS = ("given", "draft")
COUNTS = {
    "drop": (2,), "forget": (2,), "show": (2,), "kind": (2,), "gaps": (2,), "names": (1,), "long": (2,), "ask": (3,),
    "why": (3,), "fill": (3, 5), "undo": (1,),
}
MOST_FIGURES = 30


def read_row(text):
    """What a row tells, as a list: its first word, a name, and behind it a text or whole numbers; NoRow for no row."""
    words = text.split(" ")
    if words[0] in TEXTS and len(words) > 2:
        return [words[0], words[1], " ".join(words[2:])]
    if len(words) not in COUNTS.get(words[0], ()) or not all(is_number(word) for word in words[2:]):
        raise NoRow("that is none of the rows")
    return words[:2] + [int(word) for word in words[2:]]


def is_number(word):
    """Whether a word writes a whole number in at most 30 figures, without a nought ahead of others."""
    if not 1 <= len(word) <= MOST_FIGURES or word[0] == "0" and len(word) > 1:
        return False
    return all(sign in FIGURES for sign in word)
