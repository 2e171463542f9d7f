"""Sums: how many plain long programs there are where so many names of each kind are there.

Kinds are told by numbers here. A scope is a tuple of the numbers of the kinds of the names that are there, in their
order; a stock tells for each kind how many names there have it. A due is a tuple (taken, mark), taken the numbers of
the kinds that are taken ahead of the mark; a room is a tuple (stock, mark).
"""

from kindfill.kinds import ends_of, ways_of
from kindfill.kindtexts import shown_kind
from kindfill.rooms import kinds_in_moves


class Sums:
    """How many programs of each size rooms have, kept as they are found."""

    def __init__(self, row, kind):
        kinds = kinds_met(row, kind)
        self.numbers = {}
        for text in kinds:
            self.numbers[text] = len(self.numbers)
        # For each kind, and each of its ways, a tuple (mark, dues).
        self.rules = []
        for text in kinds:
            ways = ways_of(kinds[text])
            self.rules.append([(mark, self.dues_in(kinds_in_moves(moves))) for moves, mark in ways])
        self.given = self.scope_of([given for name, given in row])
        self.dues = self.dues_in([kind])
        self.found = {}

    def scope_of(self, kinds):
        """The numbers of kinds."""
        return tuple([self.numbers[shown_kind(kind)] for kind in kinds])

    def dues_in(self, kinds):
        """What is due for programs of kinds, one of each."""
        return [(self.scope_of(taken), mark) for kind in kinds for taken, mark in ends_of(kind)]

    def stock_of(self, scope):
        """How many names in a scope each kind has."""
        return stocked(tuple([0 for text in self.numbers]), scope)

    def first_rooms(self):
        """The rooms of what is due for the kind itself."""
        return rooms_with(self.stock_of(self.given), self.dues)

    def many(self, room, size):
        """How many programs of a room have just so many names."""
        key = (room, size)
        if key not in self.found:
            stock, wanted = room
            total = 0
            for number, names in enumerate(stock):
                for mark, dues in self.rules[number] if names else []:
                    # Each program of a mark's kind has one name at least.
                    if mark == wanted and len(dues) < size:
                        total += names * self.many_in(rooms_with(stock, dues), size - 1)
            self.found[key] = total
        return self.found[key]

    def many_in(self, rooms, size):
        """How many ways there are to take a program of each room, with just so many names together."""
        if not rooms:
            return 1 if size == 0 else 0
        if len(rooms) == 1:
            return self.many(rooms[0], size)
        total = 0
        for ahead in range(1, size - len(rooms) + 2):
            told = self.many(rooms[0], ahead)
            if told:
                total += told * self.many_in(rooms[1:], size - ahead)
        return total


def kinds_met(row, kind):
    """All kinds that names may have in the plain long programs of a kind, each once, by their texts."""
    known = {}
    todo = [given for name, given in row] + taken_in([kind])
    while todo:
        each = todo.pop()
        text = shown_kind(each)
        if text not in known:
            known[text] = each
            for moves, mark in ways_of(each):
                todo.extend(taken_in(kinds_in_moves(moves)))
    return known


def taken_in(kinds):
    """The kinds that are taken in programs of kinds, ahead of their marks."""
    return [each for kind in kinds for taken, mark in ends_of(kind) for each in taken]


def stocked(stock, taken):
    """A stock with what is taken put in."""
    if not taken:
        return stock
    told = list(stock)
    for number in taken:
        told[number] += 1
    return tuple(told)


def rooms_with(stock, dues):
    """The rooms of what is due where there is a stock."""
    return [(stocked(stock, taken), mark) for taken, mark in dues]
