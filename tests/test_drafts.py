"""Drafts: programs with gaps [36]."""

import unittest

from itertools import product
from samples import (A, B, C, ONE, THING, bent, both, bush, chain, first, give, halves, heap, name, pair,
                     programs_of_parts, second, take, to)
from test_progtexts import BAD, TEXTS, WORDS

from kindfill.drafts import gaps_of, read_draft, shown_draft
from kindfill.errors import NoText
from kindfill.longs import is_long
from kindfill.programs import is_program
from kindfill.progtexts import read_program, shown_program

P, F, X = name("p"), name("f"), name("x")


def gap(kind):
    return ("gap", kind)


GAPPED = [
    ("[ a ]", gap(A)), ("[ 1 ]", gap(ONE)), ("[ ( a -> ( b * 1 ) ) ]", gap(to(A, both(B, ONE)))),
    ("( [ ( a -> b ) ] p )", give(gap(to(A, B)), P)), ("( f [ a ] )", give(F, gap(A))),
    ("( [ ( a -> b ) ] [ a ] )", give(gap(to(A, B)), gap(A))), ("{ [ a ] , [ b ] }", pair(gap(A), gap(B))),
    ("{ [ a ] , p }", pair(gap(A), P)), ("{ p , [ a ] }", pair(P, gap(A))), ("[ ( a * b ) ] .1", first(gap(both(A, B)))),
    ("[ ( a * b ) ] .2 .1", first(second(gap(both(A, B))))), ("( x : a => [ b ] )", take("x", A, gap(B))),
    ("( x : ( a * b ) => ( f [ a ] ) )", take("x", both(A, B), give(F, gap(A)))),
    ("( ( x : a => [ b ] ) [ a ] )", give(take("x", A, gap(B)), gap(A))),
    ("{ ( x : a => ( [ ( a -> c ) ] x ) ) , { # , [ 1 ] } }",
     pair(take("x", A, give(gap(to(A, C)), X)), pair(THING, gap(ONE)))),
]
BAD_GAPS = [
    "[", "]", "[ ]", "[  ]", "[]", "[a]", "[ a", "a ]", "[ a ] ]", "[ [ a ]", "[ [ a ] ]", "[ a ] [ b ]", "[ a b ]", "[ a ] p",
    "[ # ]", "[ x0 ]", "[ A ]", "[ abcdefg ]", "[ ( a -> b ]", "[ a -> b ]", "[ ( a b ) ]", "[ ( f p ) ]", "[  a ]", "[ a  ]",
    " [ a ]", "[ a ] ", "[ a ]\n", "[\ta ]", "( [ a ] )", "( [ a ] : a => p )", "( x : [ a ] => x )", "( x : a => )", "( x [ : a => p )",
    "( x : a [ b ] => p )", "( x : a => p [ b ] )", "{ [ a ] }", "{ [ a ] , }", "{ [ a , b ] }", "( f [ a )", "( f [ a ) ]",
    "[ a ] .3", "[ a .1 ]", "[ ( a -> [ b ] ) ]", "[ a => ]", "[ ( x : a => x ) ]", "( f ] a [ )", "{ a ] , [ b }",
]


class Read(unittest.TestCase):
    def test_without_gaps(self):
        for text, program in TEXTS:
            self.assertEqual(read_draft(text), program)
            self.assertEqual(shown_draft(program), text)

    def test_with_gaps(self):
        for text, draft in GAPPED:
            self.assertEqual(read_draft(text), draft)
            self.assertEqual(shown_draft(draft), text)

    def test_bad_texts(self):
        for text in BAD_GAPS + [text for text in BAD if "[" not in text]:
            with self.assertRaises(NoText, msg=repr(text)):
                read_draft(text)

    def test_a_draft_is_no_program(self):
        for text, draft in GAPPED:
            self.assertIs(is_program(draft), False)
            with self.assertRaises(NoText):
                read_program(text)
        self.assertIs(is_long([], A, gap(A)), False)
        self.assertIs(is_long([("f", to(A, B))], B, give(F, gap(A))), False)
        self.assertIs(is_program(("gap", A)), False)

    def test_all_small_drafts(self):
        heads = [("p", A), ("x0", to(both(A, ONE), B))]
        for parts in (1, 2, 3, 4, 5):
            for draft in programs_of_parts(parts, [P, gap(to(A, B))], heads):
                self.assertEqual(read_draft(shown_draft(draft)), draft)

    def test_all_short_rows_of_words(self):
        told = set()
        for parts in range(1, 6):
            told |= {shown_draft(draft) for draft in programs_of_parts(parts, [P, gap(name_kind("p"))], [])}
        short = {text for text in told if len(text.split(" ")) <= 5}
        read = set()
        for many in range(6):
            for words in product(("p", "(", ")", "{", "}", ",", ".1", ".2", "[", "]"), repeat=many):
                # Most rows of words are none at their first word.
                if not words or words[0] in ("p", "(", "{", "["):
                    read |= read_or_none(" ".join(words))
        self.assertEqual(read, short)

    def test_bent_texts(self):
        for text, draft in GAPPED:
            for words in bent(text.split(" "), WORDS + ["", "1", "a", "->", "[", "]", "x07"]):
                read_or_none(" ".join(words))

    def test_the_bounds_of_programs(self):
        for draft in (heap(400), halves(80), halves(80, gap(A)), pair(gap(A), heap(398)), pair(gap(A), halves(79))):
            self.assertEqual(read_draft(shown_draft(draft)), draft)
        for draft in (heap(401), halves(81), halves(81, gap(A)), pair(gap(A), heap(399)), pair(gap(A), halves(80))):
            with self.assertRaises(NoText):
                read_draft(shown_draft(draft))

    def test_the_bounds_of_kinds(self):
        for kind in (bush(24), chain(12)):
            for draft in (gap(kind), pair(P, take("x", kind, gap(kind)))):
                self.assertEqual(read_draft(shown_draft(draft)), draft)
        for kind in (bush(25), chain(13), chain(500)):
            for draft in (gap(kind), pair(P, take("x", A, gap(kind))), take("x", kind, gap(A))):
                with self.assertRaises(NoText):
                    read_draft(shown_draft(draft))

    def test_long_texts(self):
        for text in ("[ " * 3000, "[ a " * 1500, "] " * 3000, "[ a ] " * 1000, "( [ a ] " * 700, "[ ( " * 1500, "[ a ]" + " .1" * 1900):
            with self.assertRaises(NoText):
                read_draft(text)


class GapsOf(unittest.TestCase):
    def test_no_gaps(self):
        for text, program in TEXTS:
            self.assertEqual(gaps_of(program), [])

    def test_place_and_kind(self):
        self.assertEqual(gaps_of(gap(A)), [([], [], A)])
        self.assertEqual(gaps_of(give(gap(to(A, B)), gap(A))), [([0], [], to(A, B)), ([1], [], A)])
        self.assertEqual(gaps_of(pair(pair(P, gap(B)), first(gap(both(A, B))))), [([0, 1], [], B), ([1, 0], [], both(A, B))])
        self.assertEqual(gaps_of(second(first(pair(gap(A), THING)))), [([0, 0, 0], [], A)])

    def test_what_is_taken_round_a_gap(self):
        self.assertEqual(gaps_of(take("x", A, gap(B))), [([0], [A], B)])
        draft = take("x", A, pair(gap(A), take("x", to(A, B), give(F, take("y", ONE, pair(gap(B), gap(C)))))))
        self.assertEqual(gaps_of(draft), [([0, 0], [A], A), ([0, 1, 0, 1, 0, 0], [A, to(A, B), ONE], B),
                                          ([0, 1, 0, 1, 0, 1], [A, to(A, B), ONE], C)])
        # What a take beside it takes is not there.
        self.assertEqual(gaps_of(give(take("x", A, gap(B)), gap(A))), [([0, 0], [A], B), ([1], [], A)])

    def test_from_the_left(self):
        told = gaps_of(pair(pair(gap(A), gap(B)), give(gap(to(C, A)), gap(C))))
        self.assertEqual([kind for place, taken, kind in told], [A, B, to(C, A), C])
        self.assertEqual([place for place, taken, kind in told], sorted(place for place, taken, kind in told))

    def test_told_lists_are_the_askers_own(self):
        draft = take("x", A, pair(gap(A), pair(gap(B), gap(B))))
        told = gaps_of(draft)
        for place, taken, kind in told:
            place.append(7)
            taken.append(7)
        told.append(7)
        self.assertEqual(gaps_of(draft), [([0, 0], [A], A), ([0, 1, 0], [A], B), ([0, 1, 1], [A], B)])


def name_kind(text):
    return ("mark", text)


def read_or_none(text):
    """The text, where a draft is read from it, and that it is the draft's own text; else nothing."""
    try:
        draft = read_draft(text)
    except NoText:
        return set()
    if shown_draft(draft) != text or is_program(draft) != (not gaps_of(draft)) or shown_program(draft) != text:
        raise AssertionError(text)
    return {text}


if __name__ == "__main__":
    unittest.main()
