"""Kinds: their bounds, their ends and their ways.

Nothing here calls itself: a thing that is no kind may be nested without end.
"""

from kindfill.words import is_mark

MOST_LEAVES = 24
DEEPEST = 12
LENGTHS = {"mark": 2, "one": 1, "to": 3, "both": 3}


def kinds_in(kind):
    """The kinds that stand directly in a kind, in their order."""
    if kind[0] == "mark":
        return []
    return list(kind[1:])


def has_form(thing):
    """Whether a thing is a kind, but for the things that stand directly in it."""
    if not isinstance(thing, tuple) or len(thing) == 0:
        return False
    word = thing[0]
    # Only a text is looked up: other things may not be fit to be looked up or compared.
    if not isinstance(word, str) or LENGTHS.get(word) != len(thing):
        return False
    return word != "mark" or is_mark(thing[1])


def is_kind(thing):
    """Whether a thing is a kind of 1 to 24 leaves that is at most 12 deep."""
    leaves = 0
    todo = [(thing, 0)]
    while todo:
        part, depth = todo.pop()
        if depth > DEEPEST or not has_form(part):
            return False
        inner = kinds_in(part)
        if not inner:
            leaves += 1
        # Told at once: with tuples that share their parts there may be very many leaves.
        if leaves > MOST_LEAVES:
            return False
        for kind in inner:
            todo.append((kind, depth + 1))
    return True


def leaves_of(kind):
    """How many marks and ones stand in a kind."""
    leaves = 0
    todo = [kind]
    while todo:
        inner = kinds_in(todo.pop())
        if not inner:
            leaves += 1
        todo.extend(inner)
    return leaves


def depth_of(kind):
    """How deep a kind is; a mark and the one are 0 deep."""
    deepest = 0
    todo = [(kind, 0)]
    while todo:
        part, depth = todo.pop()
        deepest = max(deepest, depth)
        for inner in kinds_in(part):
            todo.append((inner, depth + 1))
    return deepest


def ends_of(kind):
    """The ends of a kind: tuples (taken, mark)."""
    ends = []
    todo = [(kind, [])]
    while todo:
        part, taken = todo.pop()
        if part[0] == "mark":
            # Both halves of a pair go on with the same list, so each end gets its own.
            ends.append((list(taken), part[1]))
        elif part[0] == "to":
            todo.append((part[2], taken + [part[1]]))
        elif part[0] == "both":
            todo.append((part[2], taken))
            todo.append((part[1], taken))
    return ends


def ways_of(kind):
    """The ways of a kind: tuples (moves, mark)."""
    ways = []
    todo = [(kind, [])]
    while todo:
        part, moves = todo.pop()
        if part[0] == "mark":
            ways.append((moves, part[1]))
        elif part[0] == "to":
            todo.append((part[2], moves + [part[1]]))
        elif part[0] == "both":
            todo.append((part[2], moves + [2]))
            todo.append((part[1], moves + [1]))
    return ways
