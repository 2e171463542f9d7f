"""Patterns of kinds [32]."""

import unittest

from plainly import random_kind
from random import Random
from samples import A, B, C, ONE, both, chain, kinds_of_leaves, to

from kindfill.bridges import bridged
from kindfill.counting import counts_of
from kindfill.kinds import leaves_of
from kindfill.kindtexts import read_kind, shown_kind
from kindfill.patterns import pattern_of

# Kinds that are bridged, of any kinds as a, b and c.
ALIKE = [
    ("( a * b )", "( b * a )"), ("( ( a * b ) * c )", "( a * ( b * c ) )"),
    ("( ( a * b ) -> c )", "( a -> ( b -> c ) )"), ("( a -> ( b * c ) )", "( ( a -> b ) * ( a -> c ) )"),
    ("( a * 1 )", "a"), ("( 1 -> a )", "a"), ("( a -> 1 )", "1"),
]


SHAPES = [(read_kind(one), read_kind(other)) for one, other in ALIKE]
SHAPES += [(other, one) for one, other in SHAPES]


def matched(shape, kind, known):
    """Whether a kind has a shape; what stands for each of its marks is put in known."""
    if shape[0] == "mark":
        return known.setdefault(shape[1], kind) == kind
    return shape[0] == kind[0] and all(matched(shape[at], kind[at], known) for at in range(1, len(shape)))


def put_for_marks(shape, known):
    if shape[0] == "mark":
        return known[shape[1]]
    return (shape[0], *[put_for_marks(inner, known) for inner in shape[1:]])


def rewritten(kind, some=(A,)):
    """All kinds that come of a kind by one of the rows of kinds alike, there or back, at one place."""
    told = []
    for shape, becomes in SHAPES:
        known = {}
        if matched(shape, kind, known):
            # ( a -> 1 ) may come of 1 with any kind as a.
            lacking = [mark for mark in "abc" if mark not in known]
            told += [put_for_marks(becomes, {**{mark: other for mark in lacking}, **known}) for other in some]
    if kind[0] in ("to", "both"):
        told += [(kind[0], inner, kind[2]) for inner in rewritten(kind[1], some)]
        told += [(kind[0], kind[1], inner) for inner in rewritten(kind[2], some)]
    return told


def alike_by_steps(random, kind, steps, most):
    """A kind that comes of a kind by so many rows, one after the other and within one another."""
    for _ in range(steps):
        kind = random.choice([each for each in rewritten(kind, (A, to(B, A))) if leaves_of(each) <= most] or [kind])
    return kind


def classes(leaves, most, ends):
    """The sets of kinds of so few leaves that come of one another, by kinds of at most so many leaves on the way."""
    told = {kind: {kind} for many in range(1, most + 1) for kind in kinds_of_leaves(many, ends)}
    for kind in list(told):
        for other in rewritten(kind):
            if other in told and told[other] is not told[kind]:
                small, large = sorted([told[kind], told[other]], key=len)
                large |= small
                told.update({each: large for each in small})
    few = {frozenset(kind for kind in kinds if leaves_of(kind) <= leaves) for kinds in told.values()}
    return few - {frozenset()}


class PatternOf(unittest.TestCase):
    def test_a_text(self):
        for kind in (A, ONE, both(A, B), to(to(A, B), both(ONE, A))):
            self.assertIsInstance(pattern_of(kind), str)
            self.assertEqual(pattern_of(kind), pattern_of(kind))

    def test_each_row_of_the_document(self):
        for one, other in ALIKE:
            self.assertEqual(pattern_of(read_kind(one)), pattern_of(read_kind(other)), one)

    def test_of_any_kinds(self):
        random = Random(32)
        for one, other in ALIKE:
            for _ in range(100):
                known = {mark: random_kind(random, random.randint(1, 3), (A, B, C, ONE)) for mark in "abc"}
                kinds = [put_for_marks(read_kind(text), known) for text in (one, other)]
                self.assertEqual(*[pattern_of(kind) for kind in kinds])

    def test_one_after_the_other(self):
        random = Random(320)
        for _ in range(600):
            kind = random_kind(random, random.randint(1, 9), (A, B, ONE), 0.6)
            other = alike_by_steps(random, kind, 6, 12)
            self.assertEqual(pattern_of(kind), pattern_of(other), shown_kind(kind))
            self.assertEqual(counts_of([], kind, 6), counts_of([], other, 6))

    def test_kinds_that_are_not_alike(self):
        texts = ["a", "b", "1", "( a -> a )", "( a -> b )", "( b -> a )", "( a * a )", "( a * b )", "( ( a * a ) * a )",
                 "( ( a -> a ) -> a )", "( a -> ( a -> a ) )", "( a -> ( b -> a ) )", "( ( a -> b ) -> a )", "( a -> ( a * a ) )",
                 "( ( a -> a ) -> b )", "( ( ( a -> a ) -> a ) -> a )", "( ( a -> a ) -> ( a -> a ) )",
                 "( ( a -> ( b -> a ) ) -> a )", "( ( a -> ( a -> b ) ) -> a )", "( ( a -> a ) -> ( b -> a ) )",
                 "( ( a * ( a -> b ) ) * b )", "( ( a -> b ) * ( a -> a ) )", "( ( a -> b ) * ( b -> a ) )",
                 "ab", "( a * ab )", "( aa * b )", "( a -> ( b * ab ) )"]
        self.assertEqual(len({pattern_of(read_kind(text)) for text in texts}), len(texts))

    def test_just_those_that_come_of_one_another(self):
        for leaves, most, ends in ((2, 4, (A, B, ONE)), (3, 5, (A,)), (3, 4, (A, ONE))):
            by_pattern = {}
            for kind in [kind for many in range(1, leaves + 1) for kind in kinds_of_leaves(many, ends)]:
                by_pattern.setdefault(pattern_of(kind), set()).add(kind)
            self.assertEqual(classes(leaves, most, ends), {frozenset(kinds) for kinds in by_pattern.values()})

    def test_takes_eleven_deep(self):
        def nested(inner, mark, depth):
            for _ in range(depth):
                inner = to(inner, mark)
            return inner
        one = nested(A, A, 11)
        kinds = [one, nested(A, A, 10), nested(B, A, 11), nested(A, B, 11), chain(11), nested(both(A, B), A, 10),
                 nested(to(A, B), A, 10)]
        self.assertEqual(len({pattern_of(kind) for kind in kinds}), len(kinds))
        self.assertEqual(pattern_of(nested(A, A, 11)), pattern_of(nested(to(A, A), A, 10)))
        self.assertEqual(pattern_of(nested(both(A, B), A, 10)), pattern_of(nested(both(B, A), A, 10)))
        self.assertIsNotNone(bridged(nested(both(A, B), A, 10), nested(both(B, A), A, 10)))
        self.assertEqual(pattern_of(nested(to(A, B, A), A, 9)), pattern_of(nested(to(both(B, A), A), A, 9)))

    def test_orders_are_not_gone_through(self):
        # Eleven factors stand in any order: no row of orders may be tried out.
        marks = [("mark", text) for text in "kjihgfedcba"]
        self.assertEqual(pattern_of(to(*marks, A)), pattern_of(to(*reversed(marks), A)))
        one, other = [to(*[to(mark, mark) for mark in order], A) for order in (marks[:5], marks[4::-1])]
        self.assertEqual(pattern_of(one), pattern_of(other))
        self.assertNotEqual(pattern_of(to(*marks, A)), pattern_of(to(*marks[:10], marks[0], A)))

    def test_shared_just_where_bridged(self):
        kinds = [kind for leaves in (1, 2, 3) for kind in kinds_of_leaves(leaves, (A, ONE))]
        for one in kinds:
            for other in kinds:
                self.assertEqual(pattern_of(one) == pattern_of(other), bridged(one, other) is not None)


if __name__ == "__main__":
    unittest.main()
