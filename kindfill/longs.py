"""Plain long programs, and the plain long forms of programs."""

from kindfill.errors import TooLong
from kindfill.fitting import kind_of
from kindfill.programs import programs_in
from kindfill.spots import spots_of
from kindfill.steps import DEEPEST, MOST_PARTS, gone_on


def is_long(row, kind, program):
    """Whether a program is a plain long program of a kind by a row."""
    return spots_of(row, kind, program) is not None


def size_of(program):
    """How many parts of a program are names."""
    size = 0
    todo = [program]
    while todo:
        part = todo.pop()
        if part[0] == "name":
            size += 1
        todo.extend(programs_in(part))
    return size


def long_form(row, program):
    """The plain long form of a program; NoFit, then TooLong."""
    kind = kind_of(row, program)
    gauge, log = gone_on(program, None)
    return LongMaker(row).made_long(kind, gauge, 0, 0)


class LongMaker:
    """What a program without steps is made long with.

    It comes to call itself, twice at most for each part that is further in: beyond 100 deep a form is refused.
    """

    def __init__(self, row):
        # To each name what it is in the form, and its kind. Names that are new in the form are told by their numbers.
        self.known = {}
        for name, kind in row:
            self.known[name] = (("name", name), kind)
        self.parts = 0
        self.made = {}

    def note_parts(self, parts, depth):
        """So many more parts are in the form, and so deep one of them; TooLong."""
        self.parts += parts
        if self.parts > MOST_PARTS or depth > DEEPEST:
            raise TooLong("the plain long form would become too large")

    def take_name(self, name, kind, takes):
        """From here on a name stands for what the form's next take takes; told is that take's name."""
        new = f"x{takes}"
        self.known[name] = (("name", new), kind)
        return new

    def made_long(self, kind, gauge, takes, depth):
        """A program made long by its kind, where so many takes are round it, and it is so deep in the form."""
        key = (gauge, takes, depth)
        if key in self.made:
            told, parts = self.made[key]
            self.note_parts(parts, depth)
            return told
        ahead = self.parts
        word = gauge.program[0]
        if word == "pair":
            self.note_parts(1, depth)
            one = self.made_long(kind[1], gauge.inner[0], takes, depth + 1)
            told = ("pair", one, self.made_long(kind[2], gauge.inner[1], takes, depth + 1))
        elif word == "take":
            self.note_parts(1, depth)
            name = self.take_name(gauge.program[1], kind[1], takes)
            told = ("take", name, kind[1], self.made_long(kind[2], gauge.inner[0], takes + 1, depth + 1))
        elif word == "thing":
            self.note_parts(1, depth)
            told = gauge.program
        else:
            name, moves = moves_of(gauge)
            if kind[0] == "mark":
                told = self.long_moves(name, moves, (takes, depth))
            else:
                told = self.gone_along(kind, name, moves, (takes, depth))
        # What has no names of takes in it is made long in the same way again, as often as it stands there.
        if gauge.takes == 0:
            self.made[key] = (told, self.parts - ahead)
        return told

    def gone_along(self, kind, name, moves, place):
        """What a name is in the form with moves behind it: words, things that are given, numbers of new names."""
        takes, depth = place
        if kind[0] == "mark":
            return self.long_moves(name, moves, place)
        self.note_parts(1, depth)
        if kind[0] == "one":
            return ("thing",)
        if kind[0] == "both":
            one = self.gone_along(kind[1], name, moves + ["first"], (takes, depth + 1))
            return ("pair", one, self.gone_along(kind[2], name, moves + ["second"], (takes, depth + 1)))
        new = self.take_name(takes, kind[1], takes)
        return ("take", new, kind[1], self.gone_along(kind[2], name, moves + [takes], (takes + 1, depth + 1)))

    def long_moves(self, name, moves, place):
        """A name of a mark's kind by its moves, where each thing given is made long."""
        takes, depth = place
        told, kind = self.known[name]
        depth += len(moves)
        self.note_parts(1 + len(moves), depth)
        for move in moves:
            if isinstance(move, str):
                told = (move, told)
                kind = kind[1 if move == "first" else 2]
            else:
                if isinstance(move, int):
                    given = self.gone_along(kind[1], move, [], (takes, depth))
                else:
                    given = self.made_long(kind[1], move, takes, depth)
                told = ("give", told, given)
                kind = kind[2]
            depth -= 1
        return told


def moves_of(gauge):
    """The tuple (name, moves) of a program without steps that is a name with moves behind it."""
    moves = []
    while gauge.inner:
        moves.append(gauge.inner[1] if gauge.program[0] == "give" else gauge.program[0])
        gauge = gauge.inner[0]
    return (gauge.program[1], moves[::-1])
