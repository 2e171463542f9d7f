"""The paper for a kind by a row: that it has no program, just so many, or no end of them."""

from kindfill.barring import bars, tree_without
from kindfill.errors import TooMany
from kindfill.kinds import ends_of
from kindfill.living import Living
from kindfill.rings import is_ring
from kindfill.rooms import kinds_in_moves, texts_of, texts_there
from kindfill.shortrings import short_ring
from kindfill.tables import is_table, told_many, ways_there

MOST_PROGRAMS = 300


def lets(row, kind, thing):
    """Whether a thing is a paper for a kind by a row."""
    if not isinstance(thing, tuple) or len(thing) not in (2, 4) or not isinstance(thing[0], str):
        return False
    if len(thing) == 4:
        return thing[0] == "endless" and is_ring(row, kind, thing[1], thing[2], thing[3])
    if thing[0] == "none":
        return bars(row, kind, thing[1])
    return thing[0] == "many" and is_table(row, kind, thing[1]) and told_many(thing[1]) > 0


def settled(row, kind):
    """The paper for a kind by a row; TooMany where there are too many programs, or each that shows it is too large."""
    living = Living()
    room = living.lacking_of(texts_there(row), kind)
    if room is not None:
        return ("none", tree_without(living, room))
    ring = short_ring(row, kind)
    if ring is not None:
        return ("endless", *ring)
    table = table_of(living, tuple([given for name, given in row]), kind)
    if told_many(table) > MOST_PROGRAMS:
        raise TooMany("there are too many programs")
    return ("many", table)


def table_of(living, scope, kind):
    """The table of a kind without rings, where there are names of the kinds in scope."""
    table = []
    for taken, mark in ends_of(kind):
        inner = scope + tuple(taken)
        texts = texts_of(inner)
        leaf = []
        for index, moves in ways_there(inner, mark):
            leaf.append(entry_of(living, inner, texts, kinds_in_moves(moves)))
        table.append(leaf)
    return table


def entry_of(living, scope, texts, kinds):
    """The entry of a way with kinds in its moves, where there are names of the kinds in scope."""
    for number, kind in enumerate(kinds):
        room = living.lacking_of(texts, kind)
        if room is not None:
            return ("barred", number, tree_without(living, room))
    return ("made", [table_of(living, scope, kind) for kind in kinds])
