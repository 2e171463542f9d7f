"""Drafts: programs with gaps."""

from kindfill.errors import NoText
from kindfill.programs import DEEPEST, MOST_PARTS, deep_of, parts_of, placed_in
from kindfill.progtexts import draft_of_words, shown_program


def read_draft(text):
    """The draft that a text writes; NoText where it writes none."""
    draft = draft_of_words(text.split(" "))
    if draft is None or not is_in_bounds(draft):
        raise NoText("the text writes no draft")
    return draft


def is_in_bounds(draft):
    """Whether a draft has at most 400 parts and is at most 80 deep."""
    return parts_of(draft) <= MOST_PARTS and deep_of(draft) <= DEEPEST


def shown_draft(draft):
    """The text of a draft."""
    return shown_program(draft)


def gaps_of(draft):
    """The gaps of a draft, from the left: tuples (place, taken, kind), taken what the takes round the gap take."""
    gaps = []
    todo = [(draft, [], [])]
    while todo:
        part, place, taken = todo.pop()
        if part[0] == "gap":
            # Several gaps may stand in one take: each has a list of its own.
            gaps.append((place, list(taken), part[1]))
        inner = taken + [part[2]] if part[0] == "take" else taken
        todo.extend([(each, below, inner) for each, below in placed_in(part, place)[::-1]])
    return gaps
