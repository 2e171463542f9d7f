"""Programs gone on by steps."""

from kindfill.errors import NoStep, TooLong
from kindfill.gauges import gauge_of, step_place, stepped_at
from kindfill.places import can_step
from kindfill.programs import part_at

MOST_STEPS = 200
MOST_PARTS = 1500
DEEPEST = 100


def stepped(program, place):
    """The program behind the step at a place, tidied; NoStep where none can be done there."""
    part = part_at(program, place)
    if part is None or not can_step(part):
        raise NoStep("no step can be done at that place")
    return stepped_at(gauge_of(program), place).program


def run(program, picks=None):
    """The tuple (program, log): the program without steps to which one comes by picks, and the places; or TooLong."""
    gauge, log = gone_on(program, picks)
    return (gauge.program, log)


def gone_on(program, picks):
    """As run tells it, but with the gauge of the program."""
    gauge = gauge_of(program)
    log = []
    while gauge.steps:
        if len(log) == MOST_STEPS:
            raise TooLong("too many steps would be done")
        pick = picks[len(log) % len(picks)] if picks else 0
        place = step_place(gauge, pick % gauge.steps)
        gauge = stepped_at(gauge, place)
        if gauge.parts > MOST_PARTS or gauge.deep > DEEPEST:
            raise TooLong("a program would become too large")
        log.append(place)
    return (gauge, log)
