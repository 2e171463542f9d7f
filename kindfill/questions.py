"""What a desk is asked: each answer hangs on its row of given names and its drafts alone."""

from kindfill.barring import barring
from kindfill.drafts import gaps_of, shown_draft
from kindfill.duegaps import draft_by, due_at
from kindfill.errors import NoGap, NoTree
from kindfill.fitting import kind_of
from kindfill.kindtexts import shown_kind
from kindfill.longs import long_form
from kindfill.progtexts import shown_program
from kindfill.settling import settled
from kindfill.tables import told_many


def show_draft(row, drafts, words):
    """The text of a draft."""
    return shown_draft(draft_by(drafts, words[1]))


def show_kind(row, drafts, words):
    """The text of a draft's kind."""
    return shown_kind(kind_of(row, draft_by(drafts, words[1])))


def show_gaps(row, drafts, words):
    """The texts of the kinds of a draft's gaps."""
    texts = [shown_kind(kind) for place, taken, kind in gaps_of(draft_by(drafts, words[1]))]
    return " ; ".join(texts) if texts else "-"


def show_names(row, drafts, words):
    """The names by which something is given, and those of the drafts."""
    return " ".join([name for name, kind in row] + [";"] + sorted(drafts))


def show_long(row, drafts, words):
    """The text of the plain long form of a draft without gaps; NoGap for one with gaps, TooLong."""
    draft = draft_by(drafts, words[1])
    if gaps_of(draft):
        raise NoGap("the draft has gaps")
    return shown_program(long_form(row, draft))


def show_many(row, drafts, words):
    """How many programs can stand in a gap, in a word; NoGap, TooMany."""
    place, takes, due = due_at(row, draft_by(drafts, words[1]), words[2])
    paper = settled(row, due)
    return str(told_many(paper[1])) if paper[0] == "many" else paper[0]


def show_tree(row, drafts, words):
    """The text of a tree that bars what is due at a gap; NoGap, TooMany, NoTree where some program can stand there."""
    place, takes, due = due_at(row, draft_by(drafts, words[1]), words[2])
    tree = barring(row, due)
    if tree is None:
        raise NoTree("some program can stand there")
    return shown_tree(tree)


def shown_tree(tree):
    """The text of a tree."""
    words = []
    todo = [tree]
    while todo:
        item = todo.pop()
        if isinstance(item, str):
            words.append(item)
        else:
            marks, trees = item
            todo.extend(["{", *marks, ";", *trees, "}"][::-1])
    return " ".join(words)


QUESTIONS = {
    "show": show_draft, "kind": show_kind, "gaps": show_gaps, "names": show_names, "long": show_long, "ask": show_many,
    "why": show_tree,
}


def is_question(words):
    """Whether the words of a row ask something."""
    return words[0] in QUESTIONS


def answer_to(row, drafts, words):
    """The answer to the words of a question."""
    question = QUESTIONS[words[0]]
    return question(row, drafts, words)
