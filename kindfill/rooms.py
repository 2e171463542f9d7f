"""Rooms: what is there, as the sorted texts of kinds, and a mark that is due there.

What is told of a kind is looked up by its text: a kind itself may be too deep to be looked up by.
"""

from kindfill.kinds import ends_of, ways_of
from kindfill.kindtexts import read_kind, shown_kind


def texts_of(kinds):
    """The sorted texts of kinds, each once."""
    return tuple(sorted(set([shown_kind(kind) for kind in kinds])))


def texts_there(row):
    """The sorted texts of the kinds of the given names, each once."""
    return texts_of([kind for name, kind in row])


def room_with(texts, due):
    """The room of what is due where the kinds with the texts are there: a tuple (taken texts, mark)."""
    taken, mark = due
    return (tuple(sorted(set([*texts, *taken]))), mark)


def dues_of(kind):
    """What is due for a program of a kind: for each end a tuple (texts of the taken kinds, mark)."""
    return [(texts_of(taken), mark) for taken, mark in ends_of(kind)]


def rules_of(text, known):
    """For each way of the kind with a text a tuple (mark, kinds, dues): its mark, the kinds in its moves, what is due.

    They are kept in known, by the text.
    """
    if text not in known:
        known[text] = []
        for moves, mark in ways_of(read_kind(text)):
            kinds = kinds_in_moves(moves)
            known[text].append((mark, kinds, [due for kind in kinds for due in dues_of(kind)]))
    return known[text]


def kinds_in_moves(moves):
    """The kinds in the moves of a way, in order."""
    return [move for move in moves if isinstance(move, tuple)]


def rows_of(room, known):
    """The rows of a room: tuples (text, way, rooms), with the rooms themselves."""
    texts, wanted = room
    rows = []
    for text in texts:
        for way, (mark, kinds, dues) in enumerate(rules_of(text, known)):
            if mark == wanted:
                rows.append((text, way, [room_with(texts, due) for due in dues]))
    return rows


def opened(starts, known):
    """The tuple (rooms, rows) of all rooms to which rooms lead: each once, as they come, and the rows of each.

    In the rows the rooms are told by their numbers.
    """
    numbers = {}
    rooms = []
    for room in starts:
        number_of_room(room, numbers, rooms)
    rows = []
    while len(rows) < len(rooms):
        told = []
        for text, way, inner in rows_of(rooms[len(rows)], known):
            told.append((text, way, [number_of_room(room, numbers, rooms) for room in inner]))
        rows.append(told)
    return (rooms, rows)


def number_of_room(room, numbers, rooms):
    """The number of a room; one that is new is put behind the others."""
    if room not in numbers:
        numbers[room] = len(rooms)
        rooms.append(room)
    return numbers[room]
