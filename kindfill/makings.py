"""Makings: plain long programs told row by row of the book, and made of such rows."""

from kindfill.books import book_of
from kindfill.errors import NoLong, NoMaking
from kindfill.kinds import ways_of
from kindfill.kindtexts import read_kind, shown_kind
from kindfill.plans import name_at, plan_of, plan_of_moves
from kindfill.programs import remade
from kindfill.spots import spots_of


def making_of(row, kind, program):
    """The making of a plain long program of a kind; NoLong where a program is none."""
    spots = spots_of(row, kind, program)
    if spots is None:
        raise NoLong("the program is no plain long one of the kind")
    starts, rooms, rows = book_of(row, kind)
    due = starts[::-1]
    making = []
    for scope, index, way, mark in spots:
        room = due.pop()
        text = shown_kind(scope[index])
        number = [told[:2] for told in rows[room]].index((text, way))
        which = len([given for given in scope[:index] if given == scope[index]])
        making.append((room, number, which))
        due.extend(rows[room][number][2][::-1])
    return making


def made_by(row, kind, making):
    """The program that a making makes; NoMaking where a list is none."""
    starts, rooms, rows = book_of(row, kind)
    due = starts[::-1]
    done = []
    used = 0
    todo = plan_of(kind, tuple([given for name, given in row]), len(row))[::-1]
    while todo:
        scope, part = todo.pop()
        if scope is None:
            done.append(remade(part, done))
            continue
        room = due.pop()
        index, moves, inner = read_tuple(making[used:used + 1], room, rows[room], scope)
        if index is None:
            raise NoMaking(used)
        used += 1
        done.append(name_at(row, index))
        todo.extend(plan_of_moves(moves, scope, len(row))[::-1])
        due.extend(inner[::-1])
    if used < len(making):
        raise NoMaking(used)
    return done[0]


def read_tuple(told, room, rows, scope):
    """The tuple (index, moves, rooms) that a list of one tuple of a making tells in a room; index None for none.

    index is the number of the name among all that are there, moves are those of its way, rooms those of the row.
    """
    if not told or told[0][0] != room or not 0 <= told[0][1] < len(rows):
        return (None, [], [])
    text, way, inner = rows[told[0][1]]
    kind = read_kind(text)
    return (index_of(scope, kind, told[0][2]), ways_of(kind)[way][0], inner)


def index_of(scope, kind, which):
    """Where in a scope a kind stands, as often ahead of it as which tells; None where it does not."""
    found = [index for index, given in enumerate(scope) if given == kind]
    return found[which] if 0 <= which < len(found) else None
