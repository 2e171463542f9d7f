"""Programs there and back between kinds that are alike."""

from kindfill.errors import NoFit
from kindfill.fitting import kind_of
from kindfill.kinds import ends_of, is_kind, ways_of
from kindfill.longs import long_form
from kindfill.patterns import end_patterns, pattern_of
from kindfill.plans import moved, name_at, plan_of, put_together
from kindfill.programs import LENGTHS, programs_in
from kindfill.rooms import kinds_in_moves
from kindfill.spots import has_word
from kindfill.words import is_name

# Well beyond the programs there and back that are told here.
MOST_PARTS = 100000


def are_bridges(one, other, there, back):
    """Whether two things are programs there and back between two kinds, and undo one another; or TooLong."""
    if not has_kind(there, ("to", one, other)) or not has_kind(back, ("to", other, one)):
        return False
    return undoes(one, there, back) and undoes(other, back, there)


def has_kind(thing, kind):
    """Whether a thing is a program that has a kind by the empty row."""
    if not is_formed(thing):
        return False
    try:
        told = kind_of([], thing)
    except NoFit:
        return False
    return told == kind


def is_formed(thing):
    """Whether a thing is a program, of whatever size, as programs told here may be beyond the bounds.

    So may the names of their takes, from the hundredth on. Names that stand there are looked after by the kind.
    """
    parts = 0
    todo = [(thing, 0)]
    while todo:
        part, takes = todo.pop()
        parts += 1
        # Told at once: with tuples that share their parts there may be very many parts.
        if parts > MOST_PARTS or not any(has_word(part, word) for word in LENGTHS):
            return False
        if part[0] in ("name", "take") and not isinstance(part[1], str):
            return False
        if part[0] == "take":
            if not is_kind(part[2]) or not is_name(part[1]) and part[1] != f"x{takes}":
                return False
            takes += 1
        todo.extend([(inner, takes) for inner in programs_in(part)])
    return True


def undoes(kind, there, back):
    """Whether what goes there and back comes to be what it was."""
    gone = ("take", "y", kind, ("give", back, ("give", there, ("name", "y"))))
    return long_form([], gone) == long_form([], ("take", "y", kind, ("name", "y")))


def bridged(one, other):
    """The tuple (there, back) of plain long programs by which two kinds are bridged, or None where they are not."""
    if pattern_of(one) != pattern_of(other):
        return None
    return (across(one, other), across(other, one))


def across(one, other):
    """The program from one kind to another one of the same pattern."""
    return ("take", "x0", one, put_across([other], (one,), 0)[0])


def put_across(kinds, scope, fresh):
    """Programs of kinds, made of the names in a scope from the number fresh on, where both have the same patterns.

    Each way of these names is gone along just once: of ends and ways with one pattern the first with the first, and so
    on. What is given on the way is made of what the end takes, in the same manner; so the program the other way about,
    which pairs them alike, undoes it.
    """
    dues = [(pattern, number, at) for number, kind in enumerate(kinds) for at, pattern in enumerate(end_patterns(kind))]
    names = []
    for index in range(fresh, len(scope)):
        names.extend([(pattern, index, way) for way, pattern in enumerate(end_patterns(scope[index]))])
    chosen = {}
    for (pattern, number, at), (same, index, way) in zip(sorted(dues), sorted(names)):
        chosen[(number, at)] = (index, ways_of(scope[index])[way][0])
    programs = []
    for number, kind in enumerate(kinds):
        made = []
        for at, (taken, mark) in enumerate(ends_of(kind)):
            index, moves = chosen[(number, at)]
            given = put_across(kinds_in_moves(moves), scope + tuple(taken), len(scope))
            made.append(moved(name_at([], index), moves, given))
        programs.append(put_together(plan_of(kind, scope, 0), made))
    return programs
