"""Programs: their bounds, their parts and places.

Nothing here calls itself: programs that are told may be more than 1000 deep. What goes through programs goes through
drafts, too: a gap in them has no parts of its own.
"""

from kindfill.kinds import is_kind
from kindfill.words import is_name

MOST_PARTS = 400
DEEPEST = 80
LENGTHS = {"name": 2, "take": 4, "give": 3, "pair": 3, "first": 2, "second": 2, "thing": 1}


def programs_in(part):
    """The programs that stand directly in a part, in their order."""
    if part[0] in ("name", "gap"):
        return []
    if part[0] == "take":
        return [part[3]]
    return list(part[1:])


def has_form(thing):
    """Whether a thing is a program, but for the things in it that stand where programs do."""
    if not isinstance(thing, tuple) or len(thing) == 0:
        return False
    word = thing[0]
    # Only a text is looked up: other things may not be fit to be looked up or compared.
    if not isinstance(word, str) or LENGTHS.get(word) != len(thing):
        return False
    if word == "name":
        return is_name(thing[1])
    return word != "take" or is_name(thing[1]) and is_kind(thing[2])


def is_program(thing):
    """Whether a thing is a program of 1 to 400 parts that is at most 80 deep."""
    parts = 0
    todo = [(thing, 0)]
    while todo:
        part, depth = todo.pop()
        parts += 1
        # Told at once: with tuples that share their parts there may be very many parts.
        if parts > MOST_PARTS or depth > DEEPEST or not has_form(part):
            return False
        for inner in programs_in(part):
            todo.append((inner, depth + 1))
    return True


def parts_of(program):
    """How many parts a program has."""
    parts = 0
    todo = [program]
    while todo:
        parts += 1
        todo.extend(programs_in(todo.pop()))
    return parts


def deep_of(program):
    """How deep a program is; a name and the thing are 0 deep."""
    deepest = 0
    todo = [(program, 0)]
    while todo:
        part, depth = todo.pop()
        deepest = max(deepest, depth)
        for inner in programs_in(part):
            todo.append((inner, depth + 1))
    return deepest


def part_at(program, place):
    """The part of a program at a place, or None where there is none."""
    part = program
    for step in place:
        inner = programs_in(part)
        # True and False are no whole numbers.
        if isinstance(step, bool) or not 0 <= step < len(inner):
            return None
        part = inner[step]
    return part


def placed_in(part, place):
    """The programs that stand directly in the part at a place, with their places, in their order."""
    return [(inner, place + [step]) for step, inner in enumerate(programs_in(part))]


def remade(part, done):
    """A part with other programs in the stead of its own: those are taken off the end of done."""
    if part[0] in ("name", "gap"):
        return part
    if part[0] == "take":
        return part[:3] + (done.pop(),)
    start = len(done) - len(programs_in(part))
    inner = done[start:]
    del done[start:]
    return (part[0], *inner)


def replaced(program, place, other):
    """A program in which another one stands at a place."""
    around = []
    part = program
    for step in place:
        around.append((part, step))
        part = programs_in(part)[step]
    for part, step in around[::-1]:
        at = 3 if part[0] == "take" else 1 + step
        other = part[:at] + (other,) + part[at + 1:]
    return other
