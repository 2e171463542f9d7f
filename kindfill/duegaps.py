"""What is due at the gaps of a desk's drafts."""

from kindfill.drafts import gaps_of
from kindfill.errors import NoGap, NoName, TooMany
from kindfill.kinds import leaves_of

MOST_LEAVES = 12


def draft_by(drafts, name):
    """The draft by a name; NoName where none stands by it."""
    if name not in drafts:
        raise NoName("no draft stands by the name")
    return drafts[name]


def due_at(row, draft, number):
    """The tuple (place, takes, due) of a gap: where it stands, within how many takes, and the kind that is due there.

    NoGap where there is no such gap, TooMany where row and due kind have too many leaves.
    """
    gaps = gaps_of(draft)
    if number >= len(gaps):
        raise NoGap("there is no such gap")
    place, taken, due = gaps[number]
    for kind in taken[::-1]:
        due = ("to", kind, due)
    if leaves_of(due) + sum([leaves_of(given) for name, given in row]) > MOST_LEAVES:
        raise TooMany("the row and what is due have too many leaves")
    return (place, len(taken), due)
