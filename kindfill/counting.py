"""How many plain long programs of each size there are, and the least of their sizes."""

from kindfill.shortlongs import ShortLongs
from kindfill.sums import Sums


def counts_of(row, kind, most):
    """The list of the counts of the plain long programs of a kind with 0 to most names."""
    sums = Sums(row, kind)
    starts = sums.first_rooms()
    return [sums.many_in(starts, size) for size in range(most + 1)]


def shortest(row, kind):
    """A tuple (size, many): the least size of a plain long program, and how many have it; None where there is none."""
    shorts = ShortLongs(row, kind)
    size = shorts.size()
    return None if size is None else (size, shorts.many())
