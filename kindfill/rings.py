"""Rings: plain long programs that can be made longer and longer, going round between two places."""

from kindfill.errors import TooLong
from kindfill.fitting import tidied
from kindfill.programs import deep_of, part_at, parts_of, replaced
from kindfill.spots import mark_places, spots_of
from kindfill.steps import DEEPEST, MOST_PARTS
from kindfill.wholes import is_whole


def is_ring(row, kind, program, above, below):
    """Whether a thing is a plain long program of a kind, with two places round which it can be made longer."""
    if not is_place(above) or not is_place(below):
        return False
    spots = spots_of(row, kind, program)
    if spots is None or len(above) >= len(below) or below[:len(above)] != above:
        return False
    places = mark_places(program)
    if above not in places or below not in places:
        return False
    marks = [mark for scope, index, way, mark in spots]
    return marks[places.index(above)] == marks[places.index(below)]


def is_place(thing):
    """Whether a thing is a list of whole numbers."""
    return isinstance(thing, list) and all(is_whole(step) for step in thing)


def gone_round(program, above, below, times):
    """The program gone round so often, tidied; TooLong where it would be too large."""
    ring = part_at(program, above)
    place = below
    told = program
    for again in range(times - 1):
        # All that the ring has from outside is taken further out than whatever is taken on the way to the place.
        told = replaced(told, place, ring)
        place = place + below[len(above):]
    if parts_of(told) > MOST_PARTS or deep_of(told) > DEEPEST:
        raise TooLong("the program would become too large")
    return tidied(told)
