"""Trees of worlds that bar kinds: in which all that is given holds, and the kind does not."""

from kindfill.living import Living
from kindfill.rooms import rules_of, texts_there
from kindfill.words import is_mark
from kindfill.worlds import is_tree, laid_out, where_holds


def bars(row, kind, thing):
    """Whether a thing is a tree that bars a kind by a row."""
    return bars_by([given for name, given in row], kind, thing)


def bars_by(kinds, kind, thing):
    """Whether a thing is a tree at whose root kinds hold and another one does not."""
    if not is_tree(thing):
        return False
    worlds = laid_out(thing)
    if where_holds(worlds, kind)[0]:
        return False
    return all(where_holds(worlds, given)[0] for given in kinds)


def barring(row, kind):
    """A tree that bars a kind by a row, or None where some program has the kind."""
    living = Living()
    room = living.lacking_of(texts_there(row), kind)
    return None if room is None else tree_without(living, room)


def tree_without(living, room):
    """A tree at whose root all holds that is there in a room without a program, and its mark does not.

    A world stands for a room: in it hold the marks that are there. Where a kind that is there leads to a mark that
    does not hold, something in its moves has no program: a world above it shows that, in which what this takes is
    there, too. So there is always more in a world above, and the tree ends.
    """
    texts = widened(living, room)
    marks = [text for text in texts if is_mark(text)]
    trees = []
    above = room_above(living, texts, marks, trees)
    while above is not None:
        trees.append(tree_without(living, above))
        above = room_above(living, texts, marks, trees)
    return (marks, trees)


def widened(living, room):
    """What is there in a room without a program, and as many marks as can be there with it still having none.

    The more marks hold, the fewer kinds lead to one that does not, and the fewer worlds are wanted.
    """
    texts, wanted = room
    for mark in marks_in(texts):
        if mark != wanted:
            wider = tuple(sorted(set([*texts, mark])))
            if not living.has_program((wider, wanted)):
                texts = wider
    return texts


def marks_in(texts):
    """The marks in the texts of kinds, sorted."""
    return sorted(set([word for text in texts for word in text.split(" ") if is_mark(word)]))


def room_above(living, texts, marks, trees):
    """The room of one more world that has to be above a root for all that is there to hold at it, or None."""
    worlds = laid_out((marks, trees))
    for text in texts:
        for mark, kinds, dues in rules_of(text, living.rules):
            if mark not in marks and all(where_holds(worlds, kind)[0] for kind in kinds):
                rooms = living.lacking(texts, dues)
                # Where nothing is taken that is not there the root itself is such a world, once all that is there
                # holds at it.
                if texts not in [room[0] for room in rooms]:
                    return rooms[0]
    return None
