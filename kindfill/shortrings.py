"""The ring of the fewest parts, found in the book.

A program of a room goes on by one of its rows. For each room the fewest parts of its programs are reckoned; then those
of its programs with a ring within: of a row all rooms but one have programs of the fewest parts, and that one goes on
to the ring, as on a way of the least length.
"""

from kindfill.books import book_of
from kindfill.errors import TooMany
from kindfill.kinds import ways_of
from kindfill.kindtexts import read_kind
from kindfill.leasts import least_sums, sum_with
from kindfill.makings import made_by
from kindfill.plans import plan_of
from kindfill.rooms import kinds_in_moves
from kindfill.spots import mark_places

MOST_PARTS = 400
# What may be sought at a room but a mark: the upper place of a ring; nothing more, for the room is its lower place.
UPPER = ""
LOWER = "."


def short_ring(row, kind):
    """A tuple (program, above, below), a ring of a kind that has programs, of the fewest parts; None where none is.

    TooMany where it would have too many parts.
    """
    starts, rooms, rows = book_of(row, kind)
    own = [[parts_of_row(told) for told in each] for each in rows]
    fewest = least_sums(rows, own)
    seeking = ring_choices(rooms, rows, own, fewest)
    found = [start for start in range(len(starts)) if (starts[start], UPPER) in seeking]
    if not found:
        return None
    whole = parts_of_frame(kind) + sum([fewest[room][0] for room in starts])
    sizes = [whole - fewest[starts[start]][0] + seeking[(starts[start], UPPER)][0] for start in found]
    if min(sizes) > MOST_PARTS:
        raise TooMany("there is no end of programs, but each that shows it has too many parts")
    best = found[sizes.index(min(sizes))]
    making, above, below = ring_making(starts, best, rows, fewest, seeking)
    program = made_by(row, kind, making)
    places = mark_places(program)
    return (program, places[above], places[below])


def parts_of_frame(kind):
    """How many parts a plain long program of a kind has, but for its programs of marks' kinds."""
    return len([part for scope, part in plan_of(kind, (), 0) if scope is None])


def parts_of_row(told):
    """How many parts a program by a row of a room has, but for the programs of the row's rooms."""
    text, way, inner = told
    moves = ways_of(read_kind(text))[way][0]
    return 1 + len(moves) + sum([parts_of_frame(kind) for kind in kinds_in_moves(moves)])


def ring_choices(rooms, rows, own, fewest):
    """How to go on to a ring: a dict from tuples (room, what is sought) to tuples (parts, row, at, sought then).

    At the room with the number at in the row it is gone on; parts are the fewest of a program in which it is found.
    """
    seeking = {}
    ahead = rows_ahead(rows, own, fewest)
    marks = sorted(set([mark for texts, mark in rooms]))
    better = True
    while better:
        better = False
        for room, number, at, inner, parts in ahead:
            for sought in [UPPER, *marks]:
                mark = rooms[room][1] if sought == UPPER else sought
                then = LOWER if rooms[inner][1] == mark else mark
                for after in [then, UPPER] if sought == UPPER else [then]:
                    told = parts_after(inner, after, fewest, seeking)
                    if told is not None and is_fewer(seeking, (room, sought), parts + told):
                        seeking[(room, sought)] = (parts + told, number, at, after)
                        better = True
    return seeking


def rows_ahead(rows, own, fewest):
    """For each row with a program, and each of its rooms, a tuple (room, row, at, inner, parts without inner's)."""
    told = []
    for room, each in enumerate(rows):
        for number, (text, way, inner) in enumerate(each):
            parts = sum_with(own[room][number], inner, fewest)
            if parts is not None:
                for at, below in enumerate(inner):
                    told.append((room, number, at, below, parts - fewest[below][0]))
    return told


def parts_after(room, sought, fewest, seeking):
    """The fewest parts of a program of a room in which something is found, as far as it is known; else None."""
    if sought == LOWER:
        return fewest[room][0]
    return seeking[(room, sought)][0] if (room, sought) in seeking else None


def is_fewer(seeking, key, parts):
    """Whether parts are fewer than what is known for a key."""
    return key not in seeking or parts < seeking[key][0]


def ring_making(starts, best, rows, fewest, seeking):
    """The tuple (making, above, below) of a ring in the start with the number best: two tuples' numbers tell it."""
    making = []
    above = below = 0
    # What is sought is None where a program of the fewest parts will do.
    todo = [(room, UPPER if start == best else None) for start, room in enumerate(starts)][::-1]
    while todo:
        room, sought = todo.pop()
        if sought is None or sought == LOWER:
            number, at, after = fewest[room][1], 0, None
            below = len(making) if sought == LOWER else below
        else:
            parts, number, at, after = seeking[(room, sought)]
            above = len(making) if sought == UPPER and after != UPPER else above
        making.append((room, number, 0))
        inner = rows[room][number][2]
        todo.extend([(each, after if each_at == at else None) for each_at, each in enumerate(inner)][::-1])
    return (making, above, below)
