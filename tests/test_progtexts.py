"""The texts of programs [11]."""

import unittest
from itertools import product

from samples import (A, B, ONE, THING, bent, both, bush, chain, first, give, halves, heap, name, pair,
                     programs_of_parts, second, take, to)

from kindfill.errors import NoText
from kindfill.programs import is_program
from kindfill.progtexts import read_program, shown_program

P, F, X = name("p"), name("f"), name("x")
TEXTS = [
    ("p", P), ("x", X), ("x0", name("x0")), ("x99", name("x99")), ("abcdef", name("abcdef")), ("#", THING),
    ("( x : a => x )", take("x", A, X)), ("( x12 : 1 => # )", take("x12", ONE, THING)),
    ("( x : ( a -> ( b * 1 ) ) => p )", take("x", to(A, both(B, ONE)), P)),
    ("( f p )", give(F, P)), ("( ( f p ) p )", give(F, P, P)), ("( f ( f p ) )", give(F, give(F, P))),
    ("{ f , p }", pair(F, P)), ("{ { f , # } , ( f p ) }", pair(pair(F, THING), give(F, P))),
    ("p .1", first(P)), ("p .2", second(P)), ("x .1 .2", second(first(X))), ("x .2 .1 .1", first(first(second(X)))),
    ("# .1", first(THING)), ("( f x .1 )", give(F, first(X))), ("( f .1 x )", give(first(F), X)),
    ("( f x ) .1", first(give(F, X))), ("{ f , x .1 }", pair(F, first(X))), ("{ f .2 , x }", pair(second(F), X)),
    ("{ f , x } .2", second(pair(F, X))), ("( x : a => x .1 )", take("x", A, first(X))),
    ("( x : a => x ) .1", first(take("x", A, X))), ("( ( x : a => x ) p )", give(take("x", A, X), P)),
    ("( p ( x : a => ( f x ) ) )", give(P, take("x", A, give(F, X)))),
    ("( x : a => ( p : b => { x , p } ) )", take("x", A, take("p", B, pair(X, P)))),
]
BAD = [
    "", " ", "  ", "p ", " p", "p  .1", "p f", "\tp", "p\n", "p\t.1", "p\n.1", "P", "abcdefg", "x07", "x00", "x100", "x-1",
    "p1", "1", "2", "##", "# #", "p.1", "p .0", "p .3", "p .", "p . 1", "p .1.2", ".1", ".1 p", ".1 .2", "p .1 p",
    "( p )", "( # )", "()", "( )", "(", ")", "{", "}", "{}", "{ }", "{ p }", "{ p , }", "{ , p }", "{ p p }", "{ p, p }",
    "{ p , p", "p , p }", "p , p", "{ p , p , p }", "{ p , p )", "( p , p )", "( p p }", "{ p , p } }", "{ { p , p }",
    "{p , p}", "( f p", "f p )", "(f p)", "( f  p )", "( f p ) ", " ( f p )", "( f p ) )", "( ( f p )", "( ( f p ) )",
    "( f p p )", "( f p p p )", "( f .1 )", "( .1 f )", "( f p .3 )", "( f\tp )", "( f\np )", "( f p )\n",
    "( x : a => )", "( x : => x )", "( : a => x )", "( x a => x )", "( x : a x )", "x : a => x", "( x : a => x",
    "( x : a => x ) )", "( x : a => x x )", "( x : a => x .1 .3 )", "( x: a => x )", "( x :a => x )", "( x : a = > x )",
    "( x : a -> x )", "( x : a : a => x )", "( x : a => => x )", "( x : a => x => x )", "( x x : a => x )",
    "( x07 : a => x )", "( x100 : a => x )", "( X : a => x )", "( abcdefg : a => x )", "( # : a => x )",
    "( ( : a => x )", "( 1 : a => x )", "( x : A => x )", "( x : x0 => x )", "( x : # => x )", "( x : abcdefg => x )",
    "( x : a -> b => x )", "( x : ( a -> b => x )", "( x : a -> b ) => x )", "( x : ( a b ) => x )", "( x : ( a ) => x )",
    "( x :  a => x )", "( x : a  => x )", "( x : a =>  x )", "( x  : a => x )", "{ x : a => x }", "( x : a , x )",
    "( x : ( x : a => x ) => x )", "( x : a b => x )", "( x : 1 1 => x )", "( x :", "( x : a", "( x : a =>", "( x :  ",
    "[ a ]", "( f [ a ] )", "->", "=>", ":", ",", "*", "( a -> b )", "( a * b )", "None p", "'p'", "p;",
]
WORDS = ["p", "x1", "#", "(", ")", "{", "}", ",", ".1", ".2", ":", "=>"]


class Shown(unittest.TestCase):
    def test_each_form(self):
        for text, program in TEXTS:
            self.assertEqual(shown_program(program), text)

    def test_beyond_the_bounds(self):
        self.assertEqual(shown_program(halves(3000)), "p" + " .1" * 3000)
        program = THING
        for _ in range(3000):
            program = take("x100", ONE, give(P, program))
        self.assertEqual(shown_program(program), "( x100 : 1 => ( p " * 3000 + "#" + " ) )" * 3000)
        self.assertEqual(shown_program(take("p", bush(25), P)).count("a"), 25)


class Read(unittest.TestCase):
    def test_each_form(self):
        for text, program in TEXTS:
            self.assertEqual(read_program(text), program)

    def test_bad_texts(self):
        for text in BAD:
            with self.assertRaises(NoText, msg=repr(text)):
                read_program(text)

    def test_all_small_programs(self):
        heads = [("p", A), ("x0", to(both(A, ONE), B))]
        for parts in (1, 2, 3, 4, 5):
            for program in programs_of_parts(parts, [P, THING], heads):
                self.assertEqual(read_program(shown_program(program)), program)

    def test_all_short_rows_of_words(self):
        told = set()
        for parts in range(1, 6):
            told |= {shown_program(program) for program in programs_of_parts(parts, [P, name("x1"), THING], [])}
        short = {text for text in told if len(text.split(" ")) <= 5}
        read = set()
        for many in range(6):
            for words in product(("p", "x1", "#", "(", ")", "{", "}", ",", ".1", ".2"), repeat=many):
                read |= read_or_none(" ".join(words))
        self.assertEqual(read, short)

    def test_bent_texts(self):
        for text, program in TEXTS:
            for words in bent(text.split(" "), WORDS + ["", "1", "a", "->", "x07"]):
                read_or_none(" ".join(words))

    def test_the_bounds_of_programs(self):
        for program in (heap(400), halves(80), pair(P, halves(79))):
            self.assertEqual(read_program(shown_program(program)), program)
        for program in (heap(401), halves(81), pair(P, halves(80)), halves(1900)):
            with self.assertRaises(NoText):
                read_program(shown_program(program))

    def test_the_bounds_of_kinds(self):
        for kind in (bush(24), chain(12)):
            program = pair(P, take("x", kind, X))
            self.assertEqual(read_program(shown_program(program)), program)
        for kind in (bush(25), chain(13), chain(500)):
            with self.assertRaises(NoText):
                read_program(shown_program(pair(P, take("x", kind, X))))

    def test_long_texts(self):
        for text in ("( " * 3000, "{ " * 3000, "( x : " * 1000, "( x : a => " * 540, ") " * 3000, "p" * 6000, " " * 6000,
                     "# .1" + " .1" * 1990, "( f " * 1500, "( x : " + "( " * 2900, "p , " * 1500):
            with self.assertRaises(NoText):
                read_program(text)


def read_or_none(text):
    """The text, where a program is read from it, and that it is the program's own text; else nothing."""
    try:
        program = read_program(text)
    except NoText:
        return set()
    if not is_program(program) or shown_program(program) != text:
        raise AssertionError(text)
    return {text}


if __name__ == "__main__":
    unittest.main()
