"""Kinds that are alike, with programs there and back [31]."""

import copy
import unittest

from plainly import form_of, is_plain_long, longs_to, random_kind
from random import Random
from samples import A, B, C, ONE, THING, Rude, both, first, give, kinds_of_leaves, name, pair, second, take, to
from test_patterns import ALIKE, alike_by_steps, put_for_marks
from test_rings import THINGS

from kindfill.bridges import are_bridges, bridged
from kindfill.counting import counts_of
from kindfill.errors import TooLong
from kindfill.fitting import tidied
from kindfill.kinds import leaves_of
from kindfill.kindtexts import read_kind, shown_kind
from kindfill.longs import is_long
from kindfill.order import of_size
from kindfill.patterns import pattern_of
from kindfill.programs import parts_of
from kindfill.progtexts import read_program
from kindfill.steps import run

X0, Y = name("x0"), name("y")
SWAP = read_program("( y : ( a * b ) => { y .2 , y .1 } )")
SWAPPED = read_program("( y : ( b * a ) => { y .2 , y .1 } )")
SAME = take("y", A, Y)
TREES = to(to(A, A, A), A, A)


def undone(kind, there, back):
    """Whether what goes there and back is what it was, by what the programs do."""
    return form_of([], take("y", kind, give(back, give(there, Y)))) == form_of([], take("y", kind, Y))


def many_steps(many):
    """A program of the kind TREES: p, given twice to s, so often, step by step; for 7 there are 127 steps."""
    program = name("p")
    for _ in range(many):
        program = give(take("u", A, give(name("s"), name("u"), name("u"))), program)
    return take("s", to(A, A, A), take("p", A, program))


class AreBridges(unittest.TestCase):
    def bridges(self, one, other, there, back):
        self.assertIs(are_bridges(one, other, there, back), True)
        self.assertIs(are_bridges(other, one, back, there), True)

    def none(self, one, other, there, back):
        self.assertIs(are_bridges(one, other, there, back), False)

    def test_by_hand(self):
        self.bridges(A, A, SAME, take("z", A, give(SAME, name("z"))))
        self.bridges(both(A, B), both(B, A), SWAP, SWAPPED)
        self.bridges(ONE, both(ONE, ONE), take("y", ONE, pair(Y, THING)), take("y", both(ONE, ONE), THING))
        self.bridges(to(ONE, A), A, take("f", to(ONE, A), give(name("f"), THING)), take("y", A, take("z", ONE, Y)))
        self.bridges(to(A, ONE), ONE, take("y", to(A, ONE), THING), take("y", ONE, take("z", A, Y)))
        for texts in [("( ( a * b ) -> c )", "( y : ( ( a * b ) -> c ) => ( p : a => ( q : b => ( y { p , q } ) ) ) )",
                       "( a -> ( b -> c ) )", "( y : ( a -> ( b -> c ) ) => ( p : ( a * b ) => ( ( y p .1 ) p .2 ) ) )"),
                      ("( a -> ( b * c ) )", "( y : ( a -> ( b * c ) ) => { ( p : a => ( y p ) .1 ) , ( p : a => ( y p ) .2 ) } )",
                       "( ( a -> b ) * ( a -> c ) )", "( y : ( ( a -> b ) * ( a -> c ) ) => ( p : a => { ( y .1 p ) , ( y .2 p ) } ) )")]:
            self.bridges(read_kind(texts[0]), read_kind(texts[2]), read_program(texts[1]), read_program(texts[3]))

    def test_not_undone(self):
        twice = both(A, A)
        swap = take("y", twice, pair(second(Y), first(Y)))
        same = take("y", twice, Y)
        self.bridges(twice, twice, swap, swap)
        self.bridges(twice, twice, same, same)
        self.none(twice, twice, swap, same)
        self.none(twice, twice, take("y", twice, pair(first(Y), first(Y))), same)
        # Undone on the one side alone.
        doubled, half = take("y", A, pair(Y, Y)), take("y", twice, first(Y))
        self.none(A, twice, doubled, half)
        self.none(twice, A, half, doubled)
        self.none(to(A, A), to(A, A), take("y", to(A, A), take("z", A, name("z"))), take("y", to(A, A), Y))

    def test_other_kinds(self):
        self.bridges(both(A, B), both(B, A), SWAP, SWAPPED)
        self.none(both(A, B), both(B, A), SWAPPED, SWAP)
        self.none(both(B, A), both(A, B), SWAP, SWAPPED)
        self.none(both(A, B), both(B, A), SWAP, SWAP)
        self.none(A, A, take("y", B, Y), SAME)
        self.none(A, A, SAME, take("y", B, Y))
        self.none(A, B, SAME, SAME)
        self.none(A, A, SAME, take("y", A, pair(Y, Y)))
        self.none(A, A, take("y", A, first(Y)), SAME)
        self.none(A, A, SAME, THING)
        self.none(ONE, ONE, THING, THING)
        # No names are given.
        self.none(A, A, take("y", A, name("p")), SAME)
        self.none(A, A, SAME, name("p"))
        self.none(A, A, SAME, Y)

    def test_no_programs(self):
        for thing in THINGS + [("take", "y", A, Rude()), ("take", Rude(), A, Y), ("take", "y", Rude(), Y), ("take", ["y"], A, Y),
                               ("take", "y", ("mark", "a1"), Y), ("take", "Y", A, name("Y")), ("take", "", A, name("")),
                               ("take", "x00", A, name("x00")), ("take", "x100", A, name("x100")), ["take", "y", A, Y],
                               ("take", "y", A, list(Y)), ("take", "y", A, ("name", "y", "y")), ("take", "y", A),
                               ("take", "y", ["mark", "a"], Y), ("take", "y", A, ("gap", A)), ("gap", to(A, A)),
                               ("take", "y", A, ("name", None)), ("take", "y", A, ("name", b"y"))]:
            self.none(A, A, thing, SAME)
            self.none(A, A, SAME, thing)
            self.none(A, A, thing, thing)
            self.none(ONE, to(ONE, ONE), take("y", ONE, take("z", ONE, thing)), take("y", to(ONE, ONE), THING))

    def test_things_that_share_their_parts(self):
        # Of so many parts that nobody goes through them all.
        shared = THING
        for _ in range(64):
            shared = ("pair", shared, shared)
        for thing in (shared, take("y", A, shared), ("give", SAME, shared)):
            self.none(A, A, thing, SAME)
            self.none(A, A, SAME, thing)

    def test_the_first_undoing_is_looked_at_first(self):
        large = many_steps(8)
        with self.assertRaises(TooLong):
            run(large)
        # Right first, too long then; too long first.
        there, back = take("y", ONE, large), take("y", TREES, THING)
        for given in ((ONE, TREES, there, back), (TREES, ONE, back, there)):
            with self.assertRaises(TooLong):
                are_bridges(*given)
        # Wrong first: the other is not looked at. Too long first, wrong then.
        one = to(A, A, A)
        there, back = take("y", one, large), take("y", TREES, take("p", A, take("q", A, name("p"))))
        self.none(one, TREES, there, back)
        with self.assertRaises(TooLong):
            are_bridges(TREES, one, back, there)
        # Of another kind: nothing is looked at.
        self.none(ONE, TREES, take("y", ONE, large), take("y", ONE, THING))
        self.none(ONE, TREES, THING, take("y", TREES, THING))

    def test_just_at_the_bounds(self):
        # So many steps of giving p twice, one that takes y, one that takes what comes of it.
        few = many_steps(7)
        self.assertEqual(len(run(few)[1]), 127)
        self.none(ONE, TREES, take("y", ONE, few), take("y", TREES, THING))
        self.none(TREES, ONE, take("y", TREES, THING), take("y", ONE, few))

    def test_programs_told_beyond_the_bounds(self):
        # One of 409 parts.
        kind = both(A, A)
        for _ in range(5):
            kind = to(kind, both(A, A))
        same = bridged(kind, kind)[0]
        self.assertEqual(parts_of(same), 409)
        self.bridges(kind, kind, same, take("y", kind, Y))
        self.none(kind, kind, same, SAME)
        # One with so many takes that their names are none by themselves.
        one = to(to(*[A] * 8), A)
        there = of_size([], to(one, A), 16, 0)
        self.assertIn("x104", str(there))
        with self.assertRaises(TooLong):
            are_bridges(one, A, there, take("y", A, take("z", one[1], Y)))
        self.none(one, B, there, there)

    def test_by_what_the_programs_do(self):
        seen = {True: 0, False: 0}
        for one, other in [(both(A, A), both(A, A)), (to(A, A, A), to(both(A, A), A)), (to(A, both(A, A)), both(to(A, A), to(A, A))),
                           (both(A, ONE), A), (to(to(A, A), A), to(to(A, A), A)), (both(A, both(A, A)), both(both(A, A), A))]:
            for there in longs_to([], to(one, other), 3)[:30]:
                for back in longs_to([], to(other, one), 3)[:30]:
                    expected = undone(one, there, back) and undone(other, back, there)
                    self.assertIs(are_bridges(one, other, there, back), expected)
                    seen[expected] += 1
        self.assertTrue(all(many > 8 for many in seen.values()), seen)


class Bridged(unittest.TestCase):
    def looked_at(self, one, other):
        there, back = bridged(one, other)
        self.assertTrue(is_plain_long([], to(one, other), there))
        self.assertTrue(is_plain_long([], to(other, one), back))
        self.assertIs(is_long([], to(one, other), there), True)
        self.assertIs(are_bridges(one, other, there, back), True)
        self.assertIs(are_bridges(other, one, back, there), True)
        self.assertTrue(undone(one, there, back) and undone(other, back, there))
        self.assertEqual(bridged(one, other), (there, back))

    def test_each_row_of_the_document(self):
        random = Random(31)
        for one, other in ALIKE:
            for leaves in (1, 1, 2, 2, 3):
                known = {mark: random_kind(random, leaves, (A, B, C, ONE)) for mark in "abc"}
                self.looked_at(*[put_for_marks(read_kind(text), known) for text in (one, other)])
            self.looked_at(read_kind(one), read_kind(other))
            self.looked_at(read_kind(other), read_kind(one))

    def test_told_by_hand(self):
        self.assertEqual(bridged(A, A), (take("x0", A, X0), take("x0", A, X0)))
        self.assertEqual(bridged(both(A, B), both(B, A)), (tidied(SWAP), tidied(SWAPPED)))
        self.assertEqual(bridged(ONE, to(A, ONE)), (take("x0", ONE, take("x1", A, THING)), take("x0", to(A, ONE), THING)))

    def test_not_bridged(self):
        for one, other in [("a", "b"), ("a", "1"), ("a", "( a * a )"), ("( a -> b )", "( b -> a )"), ("( a -> a )", "1"),
                           ("( a * b )", "( a * a )"), ("( ( a -> b ) -> c )", "( a -> ( b -> c ) )"),
                           ("( a -> ( b -> a ) )", "( b -> ( a -> b ) )"), ("( a -> ( a -> a ) )", "( a -> a )"),
                           ("( ( a -> a ) -> a )", "( ( a * a ) -> a )"), ("( ( a * b ) -> a )", "( ( a -> a ) * b )")]:
            self.assertIsNone(bridged(read_kind(one), read_kind(other)))
            self.assertIsNone(bridged(read_kind(other), read_kind(one)))

    def test_no_programs_bridge_what_is_not_bridged(self):
        kinds = [kind for leaves in (1, 2, 3) for kind in kinds_of_leaves(leaves, (A, ONE))]
        seen = 0
        for one in kinds:
            for other in kinds:
                if bridged(one, other) is None:
                    for there in longs_to([], to(one, other), 3)[:6]:
                        for back in longs_to([], to(other, one), 3)[:6]:
                            self.assertIs(are_bridges(one, other, there, back), False)
                            seen += 1
        self.assertGreater(seen, 1000)

    def test_all_small_kinds_that_are_alike(self):
        by_pattern = {}
        for kind in [kind for leaves in (1, 2, 3) for kind in kinds_of_leaves(leaves, (A, B, ONE))]:
            by_pattern.setdefault(pattern_of(kind), []).append(kind)
        for kinds in by_pattern.values():
            for one, other in zip(kinds, kinds[1:] + kinds[:1]):
                self.looked_at(one, other)

    def test_one_after_the_other(self):
        random = Random(310)
        for _ in range(150):
            one = random_kind(random, random.randint(2, 8), (A, B, ONE), 0.6)
            other = alike_by_steps(random, one, 5, 10)
            self.looked_at(one, other)
            self.assertEqual(counts_of([], one, 8), counts_of([], other, 8), shown_kind(one))

    def test_within_one_another(self):
        one, other = [read_kind(text) for text in (
            "( ( ( ( a * b ) -> ( c * a ) ) -> ( 1 -> b ) ) -> ( a * c ) )",
            "( ( ( ( b -> ( a -> a ) ) * ( a -> ( b -> c ) ) ) -> b ) -> ( c * ( a * 1 ) ) )")]
        self.assertLessEqual(leaves_of(other), 12)
        self.looked_at(one, other)

    def test_names_of_one_pattern(self):
        # Where several ends have one pattern each is gone along just once.
        for one, other in [("( a * ( a * a ) )", "( ( a * a ) * a )"),
                           ("( ( a * a ) -> ( a * a ) )", "( ( a -> ( a -> a ) ) * ( a -> ( a -> a ) ) )"),
                           ("( ( a -> a ) -> ( ( a -> a ) -> a ) )", "( ( ( a -> a ) * ( a -> a ) ) -> a )"),
                           ("( ( ( a * a ) -> a ) -> ( a * a ) )", "( ( ( a -> ( a -> a ) ) -> a ) * ( ( a -> ( a -> a ) ) -> a ) )")]:
            self.looked_at(read_kind(one), read_kind(other))

    def test_takes_deep_within_one_another(self):
        one, other = both(A, B), both(B, A)
        for _ in range(10):
            one, other = to(one, C), to(other, C)
        self.looked_at(one, other)

    def test_what_is_handed_in_stays(self):
        one, other = both(A, both(ONE, B)), both(B, A)
        kept = copy.deepcopy((one, other))
        told = bridged(one, other)
        are_bridges(one, other, *told)
        self.assertEqual((one, other), kept)


if __name__ == "__main__":
    unittest.main()
