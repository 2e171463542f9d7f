"""How many kinds have no program, one, several, and no end of them."""

from kindfill.catalogue import kind_at, kinds_many
from kindfill.errors import TooMany
from kindfill.settling import settled
from kindfill.tables import told_many

MOST_KINDS = 600


def census(marks, leaves):
    """How many kinds over the marks with so many leaves have no program, just one, several, and no end of them."""
    many = kinds_many(marks, leaves)
    if many > MOST_KINDS:
        raise TooMany("there are too many kinds")
    told = [0, 0, 0, 0]
    for number in range(many):
        told[sort_of(kind_at(marks, leaves, number))] += 1
    return tuple(told)


def sort_of(kind):
    """0 for a kind that has no program by the empty row, 1 for one program, 2 for several, 3 for no end of them."""
    # No kind of so few leaves, as there are where kinds are so few, has too many programs or too large ones.
    paper = settled([], kind)
    if paper[0] == "none":
        return 0
    if paper[0] == "endless":
        return 3
    return min(told_many(paper[1]), 2)
