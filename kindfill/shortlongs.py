"""The shortest plain long programs, whatever their size.

A shortest program is made of shortest ones: so at each room of the book only the rows count by which there are such.
"""

from kindfill.books import book_of
from kindfill.leasts import least_sums, sum_with
from kindfill.sums import Sums, rooms_with


class ShortLongs:
    """The shortest plain long programs of a kind by a row: their size, how many there are, the first one."""

    def __init__(self, row, kind):
        self.starts, rooms, self.rows = book_of(row, kind)
        self.leasts = least_sums(self.rows, [[1 for told in each] for each in self.rows])
        self.sums = Sums(row, kind)
        self.found = {}

    def size(self):
        """How many names the shortest programs have; None where there is no program."""
        return sum_with(0, self.starts, self.leasts)

    def short_rows(self, room):
        """The rows of a room by which it has shortest programs."""
        least = self.leasts[room][0]
        return [told for told in self.rows[room] if sum_with(1, told[2], self.leasts) == least]

    def many(self):
        """How many shortest programs there are, where there is a program."""
        told = 1
        for room, (stock, mark) in zip(self.starts, rooms_with(self.sums.stock_of(self.sums.given), self.sums.dues)):
            told *= self.many_of(room, stock)
        return told

    def many_of(self, room, stock):
        """How many shortest programs a room has, where so many names of each kind are there."""
        key = (room, stock)
        if key not in self.found:
            total = 0
            for text, way, inner in self.short_rows(room):
                number = self.sums.numbers[text]
                programs = stock[number]
                for below, (more, mark) in zip(inner, rooms_with(stock, self.sums.rules[number][way][1])):
                    programs *= self.many_of(below, more)
                total += programs
            self.found[key] = total
        return self.found[key]

    def spelling(self):
        """The spelling of the first one of the shortest programs: of each room the first one will do."""
        told = []
        todo = self.rooms_due(self.starts, self.sums.given, self.sums.dues)[::-1]
        while todo:
            room, scope = todo.pop()
            index, way, inner = self.first_case(room, scope)
            told.append((index, way))
            todo.extend(self.rooms_due(inner, scope, self.sums.rules[scope[index]][way][1])[::-1])
        return told

    def rooms_due(self, rooms, scope, dues):
        """The tuples (room, scope) of rooms that are due where there is a scope."""
        return [(room, scope + taken) for room, (taken, mark) in zip(rooms, dues)]

    def first_case(self, room, scope):
        """The first name in a scope, and the first of its ways, by which there is a shortest program of a room.

        Told is a tuple (index, way, rooms): the rooms of that row.
        """
        rows = {}
        for text, way, inner in self.short_rows(room):
            rows.setdefault(self.sums.numbers[text], (way, inner))
        index = min([at for at, number in enumerate(scope) if number in rows])
        return (index, *rows[scope[index]])
