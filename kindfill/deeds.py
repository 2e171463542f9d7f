"""What is done at a desk: each deed tells a new row of given names and new drafts, and changes nothing."""

from kindfill.drafts import is_in_bounds, read_draft
from kindfill.duegaps import draft_by, due_at
from kindfill.errors import NoName, NoNumber, TooMany, Twice, Used
from kindfill.fitting import kind_of, tidied
from kindfill.kindtexts import read_kind
from kindfill.order import of_size
from kindfill.plans import spelled
from kindfill.programs import MOST_PARTS, programs_in, replaced
from kindfill.shortlongs import ShortLongs
from kindfill.words import is_mark

MOST_GIVEN = 8


def give_name(row, drafts, words):
    """One more given name; NoName, Twice, TooMany, NoKind."""
    name = words[1]
    if not is_mark(name):
        raise NoName("that is no name")
    if name in [given for given, kind in row]:
        raise Twice("the name is given already")
    if len(row) == MOST_GIVEN:
        raise TooMany("too many names would be given")
    return (row + [(name, read_kind(words[2]))], drafts)


def drop_name(row, drafts, words):
    """A given name is given no more; NoName, Used."""
    name = words[1]
    if name not in [given for given, kind in row]:
        raise NoName("nothing is given by the name")
    if any(uses(draft, name) for draft in list(drafts.values())):
        raise Used("a draft uses what is given by the name")
    return ([(given, kind) for given, kind in row if given != name], drafts)


def uses(draft, name):
    """Whether a tidied draft uses what is given by a name: taken ones are called otherwise there."""
    todo = [draft]
    while todo:
        part = todo.pop()
        if part == ("name", name):
            return True
        todo.extend(programs_in(part))
    return False


def put_draft(row, drafts, words):
    """A draft by a name; NoName, NoText, NoFit."""
    if not is_mark(words[1]):
        raise NoName("that is no name")
    draft = read_draft(words[2])
    # Only for the refusal.
    kind_of(row, draft)
    return (row, {**drafts, words[1]: tidied(draft)})


def forget_draft(row, drafts, words):
    """A draft stands there no more; NoName."""
    draft_by(drafts, words[1])
    return (row, {name: draft for name, draft in drafts.items() if name != words[1]})


def fill_gap(row, drafts, words):
    """A gap of a draft filled; NoName, NoGap, TooMany, NoNumber."""
    draft = draft_by(drafts, words[1])
    place, takes, due = due_at(row, draft, words[2])
    program = of_size(row, due, words[3], words[4]) if len(words) > 3 else short_program(row, due)
    # The takes round the gap take the same names: a draft is tidied, and a plain long program is.
    for take in range(takes):
        program = program[3]
    filled = replaced(draft, place, program)
    if not is_in_bounds(filled):
        raise TooMany("the draft would become too large")
    return (row, {**drafts, words[1]: filled})


def short_program(row, kind):
    """The first one of the shortest programs of a kind; NoNumber where there is none, TooMany for too many names."""
    shorts = ShortLongs(row, kind)
    size = shorts.size()
    if size is None:
        raise NoNumber("no program can stand there")
    # It may have so many names that it cannot be told at all.
    if size > MOST_PARTS:
        raise TooMany("the draft would become too large")
    return spelled(row, kind, shorts.spelling())


DEEDS = {"given": give_name, "drop": drop_name, "draft": put_draft, "forget": forget_draft, "fill": fill_gap}


def done_by(row, drafts, words):
    """The tuple (row, drafts) behind the deed that the words of a row tell."""
    deed = DEEDS[words[0]]
    return deed(row, drafts, words)
