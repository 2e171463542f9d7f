"""Kinds and programs that several tests are made of."""

from itertools import product

A = ("mark", "a")
B = ("mark", "b")
C = ("mark", "c")
ONE = ("one",)
THING = ("thing",)


class Rude:
    """Something that can be neither compared nor put into a dict."""

    __hash__ = None

    def __eq__(self, other):
        raise AssertionError("compared")


def to(*kinds):
    """The function from the first kinds, one after the other, to the last one."""
    *taken, told = kinds
    for kind in reversed(taken):
        told = ("to", kind, told)
    return told


def both(one, other):
    return ("both", one, other)


def name(text):
    return ("name", text)


def take(text, kind, program):
    return ("take", text, kind, program)


def give(function, *given):
    for program in given:
        function = ("give", function, program)
    return function


def pair(one, other):
    return ("pair", one, other)


def first(program):
    return ("first", program)


def second(program):
    return ("second", program)


def chain(many):
    """A kind that is so many deep."""
    return to(*[A] * many, B)


def bush(leaves):
    """A kind of so many leaves, as shallow as can be."""
    if leaves == 1:
        return A
    return both(bush(leaves // 2), bush(leaves - leaves // 2))


def halves(many, program=name("p")):
    """A program of so many halves, one of the other."""
    for _ in range(many):
        program = first(program)
    return program


def heap(parts):
    """A program of so many parts, not deep."""
    if parts <= 2:
        return name("p") if parts == 1 else first(name("p"))
    one = (parts - 1) // 2
    return pair(heap(one), heap(parts - 1 - one))


def crown(many, program):
    """Pairs of so many of one program, not deep."""
    if many == 1:
        return program
    return pair(crown(many // 2, program), crown(many - many // 2, program))


def tower(many, program):
    """A program so many pairs deep."""
    for _ in range(many):
        program = pair(program, THING)
    return program


def fed(many, program):
    """A program of the kind a, given so often to e, an ( a -> a )."""
    for _ in range(many):
        program = give(name("e"), program)
    return program


def grove(many):
    """A program of the kind a with so many p, two by two given to s, an ( a -> ( a -> a ) ): not deep."""
    if many == 1:
        return name("p")
    return give(name("s"), grove(many // 2), grove(many - many // 2))


def thicket(parts):
    """A program of so many parts without steps, not deep, that has a kind where q is given and is a pair."""
    q = first(name("q"))
    return crown((parts + 1) // 2, THING) if parts % 2 else pair(q, crown((parts - 2) // 2, THING))


def shared(word, leaf, many):
    """Tuples doubled so many times: few of them, but very many parts."""
    for _ in range(many):
        leaf = (word, leaf, leaf)
    return leaf


def kinds_of_leaves(leaves, ends=(A, ("mark", "bcd"), ONE)):
    """All kinds of so many leaves."""
    if leaves == 1:
        return list(ends)
    told = []
    for ahead in range(1, leaves):
        for one, other in product(kinds_of_leaves(ahead, ends), kinds_of_leaves(leaves - ahead, ends)):
            told += [("to", one, other), ("both", one, other)]
    return told


def programs_of_parts(parts, ends, heads):
    """All programs of so many parts, of the ends and of takes with the heads (name, kind)."""
    if parts == 1:
        return list(ends)
    told = []
    for inner in programs_of_parts(parts - 1, ends, heads):
        told += [first(inner), second(inner)]
        told += [take(text, kind, inner) for text, kind in heads]
    for ahead in range(1, parts - 1):
        for one in programs_of_parts(ahead, ends, heads):
            for other in programs_of_parts(parts - 1 - ahead, ends, heads):
                told += [give(one, other), pair(one, other)]
    return told


def bent(words, others):
    """The rows of words that come of a row by one word left out, put in, or put in another's stead."""
    told = []
    for at in range(len(words) + 1):
        told.append(words[:at] + words[at + 1:])
        for other in others:
            told.append(words[:at] + [other] + words[at:])
            told.append(words[:at] + [other] + words[at + 1:])
    return told
