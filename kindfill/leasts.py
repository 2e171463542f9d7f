"""The least sums of what programs of rooms are made of."""


def least_sums(rows, own):
    """For each room a tuple (sum, row): the least sum of one of its programs, and the row; None where it has none.

    rows are those of a book; own tells for each of them what it adds itself to the sums of its rooms.
    """
    least = [None for room in rows]
    better = True
    while better:
        better = False
        for room, told in enumerate(rows):
            for number, (text, way, inner) in enumerate(told):
                total = sum_with(own[room][number], inner, least)
                if total is not None and (least[room] is None or total < least[room][0]):
                    least[room] = (total, number)
                    better = True
    return least


def sum_with(own, inner, least):
    """The least sum of a program by a row that adds so much itself, and has rooms; None where one has no program."""
    if any(least[room] is None for room in inner):
        return None
    return own + sum([least[room][0] for room in inner])
