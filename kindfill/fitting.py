"""Which kind a program has, and programs tidied."""

from kindfill.errors import NoFit
from kindfill.programs import placed_in, programs_in, remade


def kind_of(row, program):
    """The kind that a program has by a row of given names; NoFit where it has none."""
    # To each name the kinds of what stands by it, the innermost one last.
    known = {name: [kind] for name, kind in row}
    kinds = []
    left = 0
    todo = [(program, False)]
    while todo:
        part, leaving = todo.pop()
        if leaving:
            kind = kind_of_part(part, kinds, known)
            if kind is None:
                raise NoFit(place_left(program, left))
            kinds.append(kind)
            left += 1
        else:
            todo.append((part, True))
            for inner in programs_in(part)[::-1]:
                todo.append((inner, False))
            if part[0] == "take":
                known.setdefault(part[1], []).append(part[2])
    return kinds[0]


def place_left(program, number):
    """The place of the part with a number, from 0, where each part comes behind its own ones.

    Places take time to be reckoned: only that of a part that has no kind is wanted.
    """
    places = []
    todo = [(program, [], False)]
    while len(places) <= number:
        part, place, leaving = todo.pop()
        if leaving:
            places.append(place)
        else:
            todo.append((part, place, True))
            for inner, below in placed_in(part, place)[::-1]:
                todo.append((inner, below, False))
    return places[number]


def kind_of_part(part, kinds, known):
    """The kind of a part that is left, or None; the kinds of its own parts are taken off the end of kinds."""
    word = part[0]
    if word == "thing":
        return ("one",)
    if word == "name":
        return innermost(known, part[1])
    if word == "gap":
        return part[1]
    last = kinds.pop()
    if word == "take":
        known[part[1]].pop()
        return ("to", part[2], last)
    if word == "give":
        return kind_told(kinds.pop(), last)
    if word == "pair":
        return ("both", kinds.pop(), last)
    return kind_of_half(word, last)


def innermost(known, name):
    """What stands innermost by a name, or None."""
    by_name = known.get(name, [])
    return by_name[-1] if by_name else None


def kind_told(function, given):
    """The kind of what a function of a kind tells, given something of a kind, or None."""
    if function[0] == "to" and function[1] == given:
        return function[2]
    return None


def kind_of_half(word, pair):
    """The kind of a half of a pair of a kind, or None."""
    if pair[0] != "both":
        return None
    return pair[1] if word == "first" else pair[2]


def tidied(program):
    """A program with each taken name called by how many takes stand round its take."""
    # To each name the numbers of the takes round that take by it, the innermost one last.
    known = {}
    takes = 0
    done = []
    todo = [(program, False)]
    while todo:
        part, leaving = todo.pop()
        if leaving:
            if part[0] == "take":
                takes -= 1
            done.append(tidied_part(part, done, known))
        else:
            todo.append((part, True))
            for inner in programs_in(part)[::-1]:
                todo.append((inner, False))
            if part[0] == "take":
                known.setdefault(part[1], []).append(takes)
                takes += 1
    return done[0]


def tidied_part(part, done, known):
    """A part that is left, tidied; its own tidied parts are taken off the end of done."""
    word = part[0]
    if word == "name":
        number = innermost(known, part[1])
        return part if number is None else ("name", f"x{number}")
    if word == "take":
        number = known[part[1]].pop()
        return ("take", f"x{number}", part[2], done.pop())
    return remade(part, done)
