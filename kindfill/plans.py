"""How plain long programs of a kind are put together.

A plan is a list of tuples (scope, part), for all parts down to the programs of marks' kinds, a part behind its own
parts: (None, part) for a part that takes in what was put together last, (scope, None) for a program of a mark's kind,
scope being the kinds of the names that are there, given ones first.
"""

from kindfill.kinds import ways_of
from kindfill.programs import remade

HALVES = {1: ("first", None), 2: ("second", None)}


def plan_of(kind, scope, given):
    """The plan of a program of a kind, where of the names that are there so many are given."""
    if kind[0] == "mark":
        return [(scope, None)]
    if kind[0] == "one":
        return [(None, ("thing",))]
    if kind[0] == "both":
        halves = plan_of(kind[1], scope, given) + plan_of(kind[2], scope, given)
        return halves + [(None, ("pair", None, None))]
    head = ("take", f"x{len(scope) - given}", kind[1], None)
    return plan_of(kind[2], scope + (kind[1],), given) + [(None, head)]


def plan_of_moves(moves, scope, given):
    """The plan of what is gone along behind a name."""
    plan = []
    for move in moves:
        if isinstance(move, tuple):
            plan.extend(plan_of(move, scope, given))
            plan.append((None, ("give", None, None)))
        else:
            plan.append((None, HALVES[move]))
    return plan


def name_at(row, index):
    """The program that is the name with a number among those that are there, given ones first."""
    return ("name", row[index][0] if index < len(row) else f"x{index - len(row)}")


def moved(program, moves, given):
    """What moves come to from a program on, where for the kinds in them programs are given, in order."""
    used = 0
    for move in moves:
        if isinstance(move, tuple):
            program = ("give", program, given[used])
            used += 1
        else:
            program = (HALVES[move][0], program)
    return program


def put_together(plan, programs):
    """What a plan makes of the programs of marks' kinds in it, in order."""
    done = []
    used = 0
    for scope, part in plan:
        if scope is None:
            done.append(remade(part, done))
        else:
            done.append(programs[used])
            used += 1
    return done[0]


def spelled(row, kind, spelling):
    """The plain long program of a kind with a spelling: for each name a tuple (index, way)."""
    done = []
    used = 0
    todo = plan_of(kind, tuple([given for name, given in row]), len(row))[::-1]
    while todo:
        scope, part = todo.pop()
        if scope is None:
            done.append(remade(part, done))
        else:
            index, way = spelling[used]
            used += 1
            done.append(name_at(row, index))
            todo.extend(plan_of_moves(ways_of(scope[index])[way][0], scope, len(row))[::-1])
    return done[0]
