"""The plain long programs of a kind in their order: spelled, told by size and number, and numbered."""

from kindfill.errors import NoLong, NoNumber
from kindfill.plans import spelled
from kindfill.spots import spots_of
from kindfill.sums import Sums, rooms_with

MOST_SIZE = 16


def spelling_of(row, kind, program):
    """The spelling of a plain long program: for each name a tuple (index, way); NoLong where a program is none."""
    spots = spots_of(row, kind, program)
    if spots is None:
        raise NoLong("the program is no plain long one of the kind")
    return [(index, way) for scope, index, way, mark in spots]


def of_size(row, kind, size, number):
    """The plain long program of a kind with a size and a number; NoNumber where there is none."""
    if not 0 <= size <= MOST_SIZE:
        raise NoNumber("no program of such a size has a number")
    sums = Sums(row, kind)
    if not 0 <= number < sums.many_in(sums.first_rooms(), size):
        raise NoNumber("no program of that size has the number")
    spelling = []
    left = size
    todo = with_behind(sums, sums.given, sums.dues, [1], left)
    while todo:
        left -= 1
        scope, mark, behind = todo.pop()
        for index, way, dues in cases_of(sums, scope, mark):
            many = many_by(sums, scope, dues, behind, left)
            if number < many:
                break
            number -= many
        spelling.append((index, way))
        todo.extend(with_behind(sums, scope, dues, behind, left))
    return spelled(row, kind, spelling)


def number_of(row, kind, program):
    """The tuple (size, number) of a plain long program of a kind; NoLong where a program is none.

    Only programs of a size up to 16 have numbers: of others a number below 0 is told.
    """
    spelling = spelling_of(row, kind, program)
    size = len(spelling)
    if size > MOST_SIZE:
        return (size, -1)
    sums = Sums(row, kind)
    number = 0
    left = size
    todo = with_behind(sums, sums.given, sums.dues, [1], left)
    for spot in spelling:
        left -= 1
        scope, mark, behind = todo.pop()
        for index, way, dues in cases_of(sums, scope, mark):
            if (index, way) == spot:
                break
            number += many_by(sums, scope, dues, behind, left)
        todo.extend(with_behind(sums, scope, dues, behind, left))
    return (size, number)


def cases_of(sums, scope, mark):
    """For each name in a scope, and each of its ways to a mark, a tuple (index, way, dues), in order."""
    cases = []
    for index, number in enumerate(scope):
        for way, (end, dues) in enumerate(sums.rules[number]):
            if end == mark:
                cases.append((index, way, dues))
    return cases


def many_by(sums, scope, dues, behind, left):
    """How many ways there are to go on by a case with its dues and what is behind it, with so many names left."""
    rooms = rooms_with(sums.stock_of(scope), dues)
    total = 0
    for size in range(left + 1):
        after = behind[left - size] if left - size < len(behind) else 0
        if after:
            total += after * sums.many_in(rooms, size)
    return total


def with_behind(sums, scope, dues, behind, left):
    """For each due, the last one first, a tuple (scope, mark, behind), with so many names left for all.

    behind tells for each size from 0 how many ways there are to go on behind the due with so many names.
    """
    told = []
    for taken, mark in dues[::-1]:
        told.append((scope + taken, mark, behind))
        room = (sums.stock_of(scope + taken), mark)
        here = [sums.many(room, size) for size in range(left + 1)]
        behind = multiplied(here, behind, left)
    return told


def multiplied(one, other, most):
    """The counts, for sizes from 0 to most, of pairs of which the halves have such counts."""
    told = [0 for size in range(most + 1)]
    for ahead, many in enumerate(one):
        for size, more in enumerate(other[:most + 1 - ahead]):
            told[ahead + size] += many * more
    return told
