"""Plain long programs, and the plain long forms of programs."""

from kindfill.errors import TooLong
from kindfill.fitting import kind_of, tidied
from kindfill.programs import programs_in, remade
from kindfill.spots import spots_of
from kindfill.steps import MOST_PARTS, run, within_bounds


def is_long(row, kind, program):
    """Whether a program is a plain long program of a kind by a row."""
    return spots_of(row, kind, program) is not None


def size_of(program):
    """How many parts of a program are names."""
    size = 0
    todo = [program]
    while todo:
        part = todo.pop()
        if part[0] == "name":
            size += 1
        todo.extend(programs_in(part))
    return size


def long_form(row, program):
    """The plain long form of a program; NoFit, then TooLong."""
    kind = kind_of(row, program)
    short = run(program)[0]
    return tidied(within_bounds(made_long(row, kind, short)))


def made_long(row, kind, program):
    """A tidied program without steps made long by its kind, with names of its own; TooLong for too many parts."""
    known = {name: given for name, given in row}
    done = []
    parts = 0
    # Tuples (kind, program), and (None, part) for a part that waits for its own programs.
    todo = [(kind, program)]
    while todo:
        kind, part = todo.pop()
        if kind is None:
            parts += 1
            # Told at once: of kinds with many pairs there may be very many parts.
            if parts > MOST_PARTS:
                raise TooLong("the plain long form would have too many parts")
            done.append(remade(part, done))
        elif kind[0] == "mark":
            todo.extend(long_moves(part, known)[::-1])
        else:
            todo.extend(long_frame(kind, part, known)[::-1])
    return done[0]


def long_frame(kind, program, known):
    """What is to be done to make a program long by a kind that is no mark's."""
    word = program[0]
    if kind[0] == "one":
        return [(None, ("thing",))]
    if kind[0] == "both":
        one, other = program[1:] if word == "pair" else (("first", program), ("second", program))
        return [(kind[1], one), (kind[2], other), (None, ("pair", None, None))]
    if word == "take":
        name, inner = program[1], program[3]
    else:
        # No given name and no tidied one is like this, and there is one more name in known behind each.
        name = f"y{len(known)}"
        inner = ("give", program, ("name", name))
    # In a tidied program takes further in have other names: so nothing that is still to come is hidden by this.
    known[name] = kind[1]
    return [(kind[2], inner), (None, ("take", name, kind[1], None))]


def long_moves(program, known):
    """What is to be done to make a program of a mark's kind long: a name, and each of its moves."""
    moves = []
    while program[0] != "name":
        moves.append(program)
        program = program[1]
    kind = known[program[1]]
    told = [(None, program)]
    for move in moves[::-1]:
        if move[0] == "give":
            told.append((kind[1], move[2]))
        told.append((None, move))
        kind = kind[1] if move[0] == "first" else kind[2]
    return told
