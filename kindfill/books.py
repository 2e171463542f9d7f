"""The book of a row and a kind: by which rules all plain long programs of the kind are made."""

from kindfill.rooms import dues_of, number_of_room, opened, room_with, texts_there


def book_of(row, kind):
    """The tuple (starts, rooms, rows) of a row of given names and a kind."""
    texts = texts_there(row)
    ahead = [room_with(texts, due) for due in dues_of(kind)]
    rooms, rows = opened(ahead, {})
    numbers = {}
    firsts = []
    # The rooms of the starts are the first ones: numbered alone they have the same numbers.
    starts = [number_of_room(room, numbers, firsts) for room in ahead]
    return (starts, rooms, rows)
