"""A desk done as plainly as can be by the words of the document, for the tests to compare with."""

import copy

from kindfill.barring import barring
from kindfill.counting import shortest
from kindfill.drafts import gaps_of, read_draft, shown_draft
from kindfill.errors import (NoGap, NoName, NoNumber, NoRow, NoTree, NoUndo, TooMany, Twice, Used)
from kindfill.fitting import kind_of
from kindfill.kinds import leaves_of
from kindfill.kindtexts import read_kind, shown_kind
from kindfill.longs import long_form
from kindfill.order import of_size
from kindfill.plans import spelled
from kindfill.progtexts import shown_program
from kindfill.settling import settled
from kindfill.shortlongs import ShortLongs
from kindfill.tables import told_many

FORMS = {"drop": "N", "forget": "N", "show": "N", "kind": "N", "gaps": "N", "names": "", "long": "N", "ask": "NF", "why": "NF",
         "undo": ""}
LETTERS = "abcdefghijklmnopqrstuvwxyz"


def tidy(draft, taken=()):
    """A draft tidied; taken: the names of the takes round it."""
    if draft[0] == "gap":
        return draft
    if draft[0] == "name":
        numbers = [number for number, text in enumerate(taken) if text == draft[1]]
        return ("name", f"x{numbers[-1]}") if numbers else draft
    if draft[0] == "take":
        return ("take", f"x{len(taken)}", draft[2], tidy(draft[3], (*taken, draft[1])))
    return (draft[0], *[tidy(inner, taken) for inner in draft[1:]])


def parts(draft):
    return 1 + sum(parts(inner) for inner in inner_of(draft))


def depth(draft):
    return max([1 + depth(inner) for inner in inner_of(draft)], default=0)


def inner_of(draft):
    if draft[0] in ("name", "gap"):
        return []
    return [draft[3]] if draft[0] == "take" else list(draft[1:])


def names_in(draft):
    own = [draft[1]] if draft[0] == "name" else []
    return own + [text for inner in inner_of(draft) for text in names_in(inner)]


def put_at(draft, place, other):
    if not place:
        return other
    at = 3 if draft[0] == "take" else 1 + place[0]
    return (*draft[:at], put_at(draft[at], place[1:], other), *draft[at + 1:])


def tree_text(tree):
    marks, trees = tree
    return " ".join(["{", *marks, ";", *[tree_text(inner) for inner in trees], "}"])


def is_letters(text):
    return 1 <= len(text) <= 6 and all(sign in LETTERS for sign in text)


def is_figures(text):
    return text == "0" or 1 <= len(text) <= 30 and set(text) <= set("0123456789") and text[0] != "0"


class PlainDesk:
    def __init__(self):
        self.row, self.drafts, self.past = [], {}, []

    def say(self, row):
        words = row.split(" ")
        self.check_form(words)
        if words[0] in ("given", "drop", "draft", "forget", "fill"):
            kept = copy.deepcopy((self.row, self.drafts))
            getattr(self, words[0])(*words[1:])
            self.past.append(kept)
            return "ok"
        return getattr(self, words[0])(*words[1:])

    def check_form(self, words):
        if words[0] in ("given", "draft"):
            fits = len(words) >= 3
        elif words[0] == "fill":
            fits = len(words) in (3, 5) and all(is_figures(word) for word in words[2:])
        else:
            form = FORMS.get(words[0])
            fits = form is not None and len(words) == 1 + len(form)
            fits = fits and all(form[at] == "N" or is_figures(word) for at, word in enumerate(words[1:]))
        if not fits:
            raise NoRow("")

    def given(self, name, *words):
        if not is_letters(name):
            raise NoName("")
        if any(name == other for other, kind in self.row):
            raise Twice("")
        if len(self.row) >= 8:
            raise TooMany("")
        self.row = self.row + [(name, read_kind(" ".join(words)))]

    def drop(self, name):
        if all(name != other for other, kind in self.row):
            raise NoName("")
        if any(name in names_in(draft) for draft in self.drafts.values()):
            raise Used("")
        self.row = [each for each in self.row if each[0] != name]

    def draft(self, name, *words):
        if not is_letters(name):
            raise NoName("")
        draft = read_draft(" ".join(words))
        kind_of(self.row, draft)
        self.drafts[name] = tidy(draft)

    def forget(self, name):
        self.by_name(name)
        del self.drafts[name]

    def by_name(self, name):
        if name not in self.drafts:
            raise NoName("")
        return self.drafts[name]

    def show(self, name):
        return shown_draft(self.by_name(name))

    def kind(self, name):
        return shown_kind(kind_of(self.row, self.by_name(name)))

    def gaps(self, name):
        return " ; ".join(shown_kind(kind) for place, taken, kind in gaps_of(self.by_name(name))) or "-"

    def names(self):
        return " ".join([name for name, kind in self.row] + [";"] + sorted(self.drafts))

    def long(self, name):
        if gaps_of(self.by_name(name)):
            raise NoGap("")
        return shown_program(long_form(self.row, self.drafts[name]))

    def due(self, name, number):
        gaps = gaps_of(self.by_name(name))
        if int(number) >= len(gaps):
            raise NoGap("")
        place, taken, kind = gaps[int(number)]
        for each in reversed(taken):
            kind = ("to", each, kind)
        if leaves_of(kind) + sum(leaves_of(given) for text, given in self.row) > 12:
            raise TooMany("")
        return place, len(taken), kind

    def ask(self, name, number):
        paper = settled(self.row, self.due(name, number)[2])
        return str(told_many(paper[1])) if paper[0] == "many" else paper[0]

    def why(self, name, number):
        tree = barring(self.row, self.due(name, number)[2])
        if tree is None:
            raise NoTree("")
        return tree_text(tree)

    def fill(self, name, number, *size_and_number):
        place, takes, kind = self.due(name, number)
        if size_and_number:
            program = of_size(self.row, kind, *map(int, size_and_number))
        else:
            least = shortest(self.row, kind)
            if least is None:
                raise NoNumber("")
            program = spelled(self.row, kind, ShortLongs(self.row, kind).spelling())
            if least[0] <= 16:
                assert program == of_size(self.row, kind, least[0], 0)
        for _ in range(takes):
            program = program[3]
        draft = put_at(self.drafts[name], place, program)
        if parts(draft) > 400 or depth(draft) > 80:
            raise TooMany("")
        self.drafts[name] = draft

    def undo(self):
        if not self.past:
            raise NoUndo("")
        self.row, self.drafts = self.past.pop()
        return "ok"
