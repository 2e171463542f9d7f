"""Programs gone on by steps."""

from kindfill.errors import NoStep, TooLong
from kindfill.fitting import tidied
from kindfill.places import can_step, step_places
from kindfill.programs import deep_of, part_at, parts_of, remade, replaced, programs_in

MOST_STEPS = 200
MOST_PARTS = 1500
DEEPEST = 100


def stepped(program, place):
    """The program behind the step at a place, tidied; NoStep where none can be done there."""
    part = part_at(program, place)
    if part is None or not can_step(part):
        raise NoStep("no step can be done at that place")
    return tidied(step_done(tidied(program), place))


def run(program, picks=None):
    """The tuple (program, log): the program without steps to which one comes by picks, and the places; or TooLong."""
    program = tidied(program)
    log = []
    places = step_places(program)
    while places:
        if len(log) == MOST_STEPS:
            raise TooLong("too many steps would be done")
        pick = picks[len(log) % len(picks)] if picks else 0
        place = places[pick % len(places)]
        program = tidied(within_bounds(step_done(program, place)))
        log.append(place)
        places = step_places(program)
    return (program, log)


def within_bounds(program):
    """A program that has at most 1500 parts and is at most 100 deep; TooLong for any other."""
    if parts_of(program) > MOST_PARTS or deep_of(program) > DEEPEST:
        raise TooLong("a program would become too large")
    return program


def step_done(program, place):
    """What a tidied program becomes by the step at a place; it is not tidied again."""
    part = part_at(program, place)
    if part[0] == "give":
        function = part[1]
        return replaced(program, place, put_in(function[3], function[1], part[2]))
    half = 1 if part[0] == "first" else 2
    return replaced(program, place, part[1][half])


def put_in(program, name, other):
    """A program with another one in the stead of a name, where both stand in one tidied program.

    There each take has a name of its own among the takes round it, and those within the program are further in than
    all that the other one has from outside: so it may be put in as it is, and keeps what its names stand for.
    """
    done = []
    todo = [(program, False)]
    while todo:
        part, leaving = todo.pop()
        if leaving:
            done.append(remade(part, done))
        elif part[0] == "name":
            done.append(other if part[1] == name else part)
        else:
            todo.append((part, True))
            for inner in programs_in(part)[::-1]:
                todo.append((inner, False))
    return done[0]
