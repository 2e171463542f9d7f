"""Gauges: tidied programs with what a run has to know of them.

A gauge is never changed: behind a step new ones are made only for what stands on the way to its place, and for what has
the name for which something is put in, or a take that has another number then. All others stand there again as they
are, so a step takes little time in a large program. Nothing here calls itself: programs may be more than 1000 deep.
"""

from kindfill.places import can_step


class Gauge:
    """A part of a tidied program, with the gauges of the programs in it, and what is told of it.

    steps: at how many places in it steps can be done; parts: how many it has; deep: how deep it is; takes: one more
    than the greatest number of a take in it, or of one round it whose name stands in it, 0 where there is none.
    """

    def __init__(self, program, inner, steps, parts, deep, takes):
        self.program = program
        self.inner = inner
        self.steps = steps
        self.parts = parts
        self.deep = deep
        self.takes = takes


def leaf(program, takes):
    """The gauge of a name or a thing."""
    return Gauge(program, (), 0, 1, 0, takes)


def numbered(number):
    """The gauge of the name that the take with a number takes."""
    return leaf(("name", f"x{number}"), number + 1)


def taken(number, kind, one):
    """The gauge of a take with a number."""
    program = ("take", f"x{number}", kind, one.program)
    takes = one.takes if one.takes > number else number + 1
    return Gauge(program, (one,), one.steps, one.parts + 1, one.deep + 1, takes)


def halved(word, one):
    """The gauge of a half."""
    program = (word, one.program)
    return Gauge(program, (one,), one.steps + can_step(program), one.parts + 1, one.deep + 1, one.takes)


def joined(word, one, other):
    """The gauge of a pair, or of what is given something."""
    program = (word, one.program, other.program)
    steps = one.steps + other.steps + can_step(program)
    deep = 1 + (one.deep if one.deep > other.deep else other.deep)
    takes = one.takes if one.takes > other.takes else other.takes
    return Gauge(program, (one, other), steps, one.parts + other.parts + 1, deep, takes)


def built(ahead):
    """The gauge that is told part by part, each ahead of its own: gauges, and tuples (program, number) for all others.

    Of a program only its head counts; number is that of a take.
    """
    done = []
    for told in reversed(ahead):
        if isinstance(told, Gauge):
            done.append(told)
            continue
        program, number = told
        word = program[0]
        one = done.pop()
        if word == "take":
            done.append(taken(number, program[2], one))
        elif word == "give" or word == "pair":
            done.append(joined(word, one, done.pop()))
        else:
            done.append(halved(word, one))
    return done[0]


def gauge_of(program):
    """The gauge of a program, tidied."""
    # To each name the numbers of the takes round that take by it, the innermost one last.
    known = {}
    takes = 0
    ahead = []
    # Between the parts stand texts: the name of a take that is left there.
    todo = [program]
    while todo:
        part = todo.pop()
        if isinstance(part, str):
            known[part].pop()
            takes -= 1
        elif part[0] == "take":
            ahead.append((part, takes))
            known.setdefault(part[1], []).append(takes)
            takes += 1
            todo.extend([part[1], part[3]])
        elif part[0] == "name" or part[0] == "thing":
            numbers = known.get(part[1]) if part[0] == "name" else None
            ahead.append(numbered(numbers[-1]) if numbers else leaf(part, 0))
        else:
            ahead.append((part, 0))
            todo.extend(part[:0:-1])
    return built(ahead)


def renumbered(gauge, least, takes, more, others):
    """A gauge that stands within so many takes, with so much more put to the numbers of takes from least on.

    Where there are others, they are put in the stead of the name of the take least: the first one at once within it,
    and by each number of takes on the way from there what it is told as within these.
    """
    ahead = []
    todo = [(gauge, takes)]
    while todo:
        part, takes = todo.pop()
        if part.takes <= least:
            ahead.append(part)
        elif part.inner:
            ahead.append((part.program, takes + more))
            within = takes + 1 if part.program[0] == "take" else takes
            for inner in part.inner[::-1]:
                todo.append((inner, within))
        elif part.takes == least + 1 and others:
            way = takes - least - 1
            if way not in others:
                others[way] = renumbered(others[0], least, least, way, {})
            ahead.append(others[way])
        else:
            ahead.append(numbered(part.takes - 1 + more))
    return built(ahead)


def behind_step(gauge, takes):
    """The gauge of what a part, at which a step can be done, becomes by it; so many takes stand round it."""
    if gauge.program[0] == "give":
        function, given = gauge.inner
        # The take is gone, so all further in have a number that is one less.
        return renumbered(function.inner[0], takes, takes + 1, -1, {0: given})
    return gauge.inner[0].inner[0 if gauge.program[0] == "first" else 1]


def step_place(gauge, number):
    """The place with a number, from 0, of all places at which steps can be done."""
    place = []
    while number > 0 or not can_step(gauge.program):
        number -= can_step(gauge.program)
        at = 0
        while number >= gauge.inner[at].steps:
            number -= gauge.inner[at].steps
            at += 1
        place.append(at)
        gauge = gauge.inner[at]
    return place


def stepped_at(gauge, place):
    """The gauge behind the step at a place at which one can be done."""
    way = []
    takes = 0
    for at in place:
        way.append((gauge, at, takes))
        takes += gauge.program[0] == "take"
        gauge = gauge.inner[at]
    told = behind_step(gauge, takes)
    for around, at, number in way[::-1]:
        told = with_inner(around, at, told, number)
    return told


def with_inner(gauge, at, inner, number):
    """A gauge with another one in it at a place; number is its own where it is a take."""
    word = gauge.program[0]
    if word == "take":
        return taken(number, gauge.program[2], inner)
    if word == "give" or word == "pair":
        return joined(word, inner, gauge.inner[1]) if at == 0 else joined(word, gauge.inner[0], inner)
    return halved(word, inner)
