"""Trees of worlds: which kinds hold in them."""

from kindfill.words import is_mark

DEEPEST = 40


def is_tree(thing):
    """Whether a thing is a tree of worlds that is at most 40 trees deep."""
    todo = [(thing, [], 1)]
    while todo:
        tree, below, depth = todo.pop()
        if depth > DEEPEST or not has_form(tree):
            return False
        marks, trees = tree
        if not all(mark in marks for mark in below):
            return False
        for inner in trees:
            todo.append((inner, marks, depth + 1))
    return True


def has_form(thing):
    """Whether a thing is a tree, but for the things in it that stand where trees do."""
    if not isinstance(thing, tuple) or len(thing) != 2:
        return False
    marks, trees = thing
    if not isinstance(marks, list) or not isinstance(trees, list):
        return False
    # Only texts are compared: other things may not be fit for it.
    if not all(is_mark(mark) for mark in marks):
        return False
    return marks == sorted(set(marks))


def worlds_of(tree):
    """How many worlds a tree has."""
    return len(laid_out(tree))


def holds(tree, kind):
    """Whether a kind holds at the root of a tree."""
    return where_holds(laid_out(tree), kind)[0]


def laid_out(tree):
    """The worlds of a tree as tuples (marks, below), each behind the world below it; below is that one's number."""
    worlds = []
    todo = [(tree, -1)]
    while todo:
        world, below = todo.pop()
        for inner in world[1]:
            todo.append((inner, len(worlds)))
        worlds.append((world[0], below))
    return worlds


def where_holds(worlds, kind):
    """For each of the worlds of a tree, laid out, whether a kind holds there."""
    if kind[0] == "mark":
        return [kind[1] in marks for marks, below in worlds]
    if kind[0] == "one":
        return [True for world in worlds]
    one = where_holds(worlds, kind[1])
    other = where_holds(worlds, kind[2])
    if kind[0] == "both":
        return [here and there for here, there in zip(one, other)]
    told = [there or not here for here, there in zip(one, other)]
    # From the last world on: each stands behind the one below it.
    for number in range(len(worlds) - 1, 0, -1):
        if not told[number]:
            told[worlds[number][1]] = False
    return told
