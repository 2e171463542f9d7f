"""Plain long programs gone through: the spots at which programs of marks' kinds stand.

Nothing here calls itself: programs that are told may be more than 1000 deep. Nothing here fails by a thing that is no
program: a thing is looked at only where its form was looked at.
"""

from kindfill.kinds import is_kind, ways_of
from kindfill.programs import LENGTHS, placed_in

MOVES = ("first", "second", "give")


def spots_of(row, kind, program):
    """The spots of a plain long program of a kind, in order, or None where a thing is none.

    A spot is a tuple (scope, index, way, mark): the kinds of the names that are there, given ones first, which of
    them stands there, from 0, which way of its kind is gone along, from 0, and the mark to which it goes.
    """
    numbers = {}
    for name, given in row:
        numbers[name] = len(numbers)
    spots = []
    todo = [(kind, program, tuple([given for name, given in row]))]
    while todo:
        kind, part, scope = todo.pop()
        if kind[0] == "mark":
            inner = read_spot(part, kind[1], scope, numbers, spots)
        else:
            inner = read_frame(part, kind, scope, len(row))
        if kind[0] == "to":
            # The same number in every part: the name is there where the scope is longer than that.
            numbers[f"x{len(scope) - len(row)}"] = len(scope)
        if inner is None:
            return None
        todo.extend(inner[::-1])
    return spots


def has_word(part, word):
    """Whether a thing has the form of a part with a word, but for what stands in it."""
    if not isinstance(part, tuple) or len(part) != LENGTHS[word]:
        return False
    return isinstance(part[0], str) and part[0] == word


def read_frame(part, kind, scope, given):
    """What has to be read in a part of a kind that is no mark's, as tuples (kind, part, scope), or None."""
    if kind[0] == "one":
        return [] if has_word(part, "thing") else None
    if kind[0] == "both":
        if not has_word(part, "pair"):
            return None
        return [(kind[1], part[1], scope), (kind[2], part[2], scope)]
    if not has_word(part, "take") or not isinstance(part[1], str) or not is_kind(part[2]):
        return None
    if part[1] != f"x{len(scope) - given}" or part[2] != kind[1]:
        return None
    return [(kind[2], part[3], scope + (kind[1],))]


def read_spot(part, mark, scope, numbers, spots):
    """What has to be read in a part of a mark's kind, as tuples (kind, part, scope), or None; its spot is noted."""
    moves = []
    while not has_word(part, "name"):
        if not any(has_word(part, word) for word in MOVES):
            return None
        moves.append(part)
        part = part[1]
    index = numbers.get(part[1], len(scope)) if isinstance(part[1], str) else len(scope)
    if index >= len(scope):
        return None
    told = gone_along(scope[index], moves[::-1], scope)
    if told is None or told[0] != ("mark", mark):
        return None
    spots.append((scope, index, told[1], mark))
    return told[2]


def gone_along(kind, moves, scope):
    """The tuple (kind, way, inner): to what moves go from a kind on, by which way, and what is given; or None."""
    way = 0
    inner = []
    for move in moves:
        if kind[0] != ("to" if move[0] == "give" else "both"):
            return None
        if move[0] == "give":
            inner.append((kind[1], move[2], scope))
        elif move[0] == "second":
            way += len(ways_of(kind[1]))
        kind = kind[1] if move[0] == "first" else kind[2]
    return (kind, way, inner)


def mark_places(program):
    """The places of a plain long program at which programs of marks' kinds stand, in the order of its spots."""
    places = []
    todo = [(program, [], False)]
    while todo:
        part, place, moved = todo.pop()
        moves = part[0] in MOVES
        if (moves or part[0] == "name") and not moved:
            places.append(place)
        inner = placed_in(part, place)
        for number in range(len(inner) - 1, -1, -1):
            # What is gone along stands first in its move; it is a part of the same mark's program.
            todo.append((inner[number][0], inner[number][1], moves and number == 0))
    return places
