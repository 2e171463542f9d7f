"""The desk [37], [38]."""

import unittest

from plaindesk import PlainDesk
from plainly import bars_plainly
from random import Random
from samples import A, B, chain, halves, heap, to

from kindfill.counting import counts_of
from kindfill.desk import Desk
from kindfill.drafts import read_draft
from kindfill.errors import (KindError, NoFit, NoGap, NoKind, NoName, NoNumber, NoRow, NoText, NoTree, NoUndo, TooLong, TooMany,
                             Twice, Used)
from kindfill.kindtexts import read_kind, shown_kind
from kindfill.fitting import kind_of
from kindfill.longs import long_form, size_of
from kindfill.order import number_of, of_size
from kindfill.programs import deep_of, parts_of
from kindfill.progtexts import read_program, shown_program
from kindfill.questions import shown_tree

ROWS = ["given f ( a -> ( a -> b ) )", "given p a", "given q a", "draft d ( y : a => { ( ( f [ a ] ) y ) , [ ( a -> a ) ] } )",
        "draft e [ c ]", "draft g ( f p )", "draft h { [ 1 ] , [ ( b * a ) ] }"]
# What is asked of a desk to see all that stands there.
ASKED = ["names"] + [f"{word} {text}" for word in ("show", "kind", "gaps", "long") for text in "deghkp"]
ASKED += [f"{word} {text} {number}" for word in ("ask", "why") for text in "deg" for number in range(3)]


def desk_of(*rows):
    desk = Desk()
    for row in rows:
        assert desk.say(row) == "ok", row
    return desk


def answer(desk, row):
    """What a desk answers; the name of the refusal where it refuses."""
    try:
        return desk.say(row)
    except KindError as refusal:
        return type(refusal).__name__


def all_of(desk):
    """All that stands at a desk, as far as it tells, but for its deeds."""
    return [answer(desk, row) for row in ASKED]


class DeskTest(unittest.TestCase):
    def refused(self, desk, error, *rows):
        """Each row is refused by a desk, and behind it all stands as it did."""
        kept = all_of(desk)
        for row in rows:
            with self.assertRaises(error, msg=repr(row)) as caught:
                desk.say(row)
            self.assertEqual(type(caught.exception), error, row)
            self.assertEqual(all_of(desk), kept, row)

    def answers(self, desk, *rows):
        for row, text in zip(rows[::2], rows[1::2]):
            self.assertEqual(desk.say(row), text, row)


class Given(DeskTest):
    def test_behind_the_others(self):
        desk = Desk()
        self.answers(desk, "names", ";", "given q a", "ok", "names", "q ;", "given abcdef ( ( a -> b ) * 1 )", "ok",
                     "names", "q abcdef ;", "given a a", "ok", "names", "q abcdef a ;")

    def test_a_draft_may_have_the_same_name(self):
        desk = desk_of("given p a", "draft p p", "draft names p", "given names b")
        self.answers(desk, "names", "p names ; names p", "show p", "p", "drop names", "ok", "names", "p ; names p", "forget p", "ok",
                     "names", "p ; names")

    def test_names_that_are_none(self):
        for text in ("", "P", "x0", "x12", "abcdefg", "p1", "(", "p.", "\tp", "p\n", "1"):
            self.refused(desk_of(*ROWS), NoName, f"given {text} a", f"draft {text} p", f"draft {text} (", f"given {text} (")
        self.refused(desk_of(*ROWS), NoName, "given  a", "given  f a", "draft  p", "draft  d p")

    def test_twice(self):
        self.refused(desk_of(*ROWS), Twice, "given p a", "given p b", "given q (", "given f ", "given p  a", "given f p a")

    def test_no_kind(self):
        self.refused(desk_of(*ROWS), NoKind, "given z ", "given z A", "given z (", "given z a b", "given z  a", "given z a ",
                     "given z ( a -> b", "given z ( a  -> b )", "given z #", "given z " + shown_kind(chain(13)), "given z a\n")
        self.assertEqual(desk_of(*ROWS).say("given z " + shown_kind(chain(12))), "ok")

    def test_a_ninth_name(self):
        desk = desk_of(*[f"given {text} a" for text in "pqrstuvw"])
        self.answers(desk, "names", "p q r s t u v w ;")
        self.refused(desk, TooMany, "given x a", "given x (", "given x ", "given abc ( a -> a )")
        self.refused(desk, Twice, "given w a", "given p (")
        self.refused(desk, NoName, "given X a", "given x0 (")
        self.answers(desk, "drop r", "ok", "given x b", "ok", "names", "p q s t u v w x ;")
        self.refused(desk, TooMany, "given r a")

    def test_it_is_not_taken_by_what_takes_its_name(self):
        desk = desk_of("given p a", "draft d ( q : b => { q , p } )", "given q c")
        self.answers(desk, "show d", "( x0 : b => { x0 , p } )", "kind d", "( b -> ( b * a ) )")


class Drop(DeskTest):
    def test_dropped(self):
        desk = desk_of("given p a", "given q b", "given r c", "drop q")
        self.answers(desk, "names", "p r ;", "given q a", "ok", "names", "p r q ;", "drop p", "ok", "drop q", "ok", "drop r", "ok",
                     "names", ";")

    def test_no_name(self):
        self.refused(desk_of(*ROWS), NoName, "drop z", "drop d", "drop e", "drop ", "drop P", "drop x0", "drop abcdefgh")
        self.refused(Desk(), NoName, "drop p", "drop f")

    def test_used(self):
        desk = desk_of(*ROWS)
        self.refused(desk, Used, "drop f", "drop p")
        self.answers(desk, "drop q", "ok", "forget g", "ok", "drop p", "ok")
        self.refused(desk, Used, "drop f")
        self.answers(desk, "forget d", "ok", "drop f", "ok", "names", "; e h")

    def test_what_is_taken_is_not_used(self):
        desk = desk_of("given p a", "draft d ( p : b => p )", "drop p")
        self.answers(desk, "names", "; d", "show d", "( x0 : b => x0 )")
        desk = desk_of("given p a", "draft d ( p : b => ( q : a => p ) )", "draft e { p , ( p : a => p ) }")
        self.refused(desk, Used, "drop p")

    def test_a_gap_uses_nothing(self):
        self.answers(desk_of("given p a", "draft d [ a ]", "drop p"), "show d", "[ a ]", "ask d 0", "none")
        desk = desk_of("given p a", "draft d [ a ]", "fill d 0")
        self.refused(desk, Used, "drop p")


class Draft(DeskTest):
    def test_tidied(self):
        desk = desk_of("given p a", "draft d ( y : b => { y , ( y : a => ( z : c => { y , p } ) ) } )")
        self.answers(desk, "show d", "( x0 : b => { x0 , ( x1 : a => ( x2 : c => { x1 , p } ) ) } )",
                     "kind d", "( b -> ( b * ( a -> ( c -> ( a * a ) ) ) ) )", "gaps d", "-")

    def test_in_the_stead_of_one_that_stood_there(self):
        desk = desk_of("given p a", "draft d p", "draft e p", "draft d #")
        self.answers(desk, "names", "p ; d e", "show d", "#", "show e", "p", "undo", "ok", "show d", "p", "undo", "ok", "undo", "ok",
                     "names", "p ;")

    def test_no_text(self):
        self.refused(desk_of(*ROWS), NoText, "draft z ", "draft d (", "draft d [ ]", "draft d [ a ", "draft d p ", "draft d  p",
                     "draft d p q", "draft d x100", "draft d P", "draft d ( f  p )", "draft d ( [ a ] : a => p )", "draft d ( z p",
                     "draft d { p , ( y : a -> b => y ) }")

    def test_no_fit(self):
        desk = desk_of(*ROWS)
        self.refused(desk, NoFit, "draft d z", "draft z ( p q )", "draft d ( f [ b ] )", "draft d ( [ a ] [ a ] )", "draft d [ a ] .1",
                     "draft d d", "draft d x0", "draft d ( ( y : a => y ) y )")
        with self.assertRaises(NoFit) as caught:
            desk.say("draft d { p , ( f ( [ ( a -> c ) ] p ) ) }")
        self.assertEqual(caught.exception.place, [1])

    def test_the_bounds(self):
        large = shown_program(heap(400)), shown_program(halves(80)), shown_program(heap(401)), shown_program(halves(81))
        for text in large[2:]:
            self.refused(desk_of("given p a"), NoText, f"draft d {text}")
        for text in large[:2]:
            self.refused(desk_of("given p a"), NoFit, f"draft d {text}")
        row = "draft d " + "( y : 1 => " * 80 + "[ a ]" + " )" * 80
        desk = desk_of(row)
        self.assertIn("x79 : 1", desk.say("show d"))
        self.refused(desk, NoText, "draft d " + "( y : 1 => " * 81 + "[ a ]" + " )" * 81)
        self.refused(desk, TooMany, "ask d 0", "why d 0", "fill d 0")

    def test_forgotten(self):
        desk = desk_of(*ROWS)
        self.answers(desk, "forget d", "ok", "names", "f p q ; e g h", "forget h", "ok", "names", "f p q ; e g")
        self.refused(desk, NoName, "forget d", "forget p", "forget ", "forget E", "show d", "kind d", "gaps d", "long d", "ask d 0",
                     "why d 0", "fill d 0", "fill d 0 1 0")


class Questions(DeskTest):
    def test_show_kind_gaps(self):
        desk = desk_of(*ROWS)
        self.answers(desk, "show d", "( x0 : a => { ( ( f [ a ] ) x0 ) , [ ( a -> a ) ] } )", "kind d", "( a -> ( b * ( a -> a ) ) )",
                     "gaps d", "a ; ( a -> a )", "show e", "[ c ]", "kind e", "c", "gaps e", "c", "show g", "( f p )",
                     "kind g", "( a -> b )", "gaps g", "-", "gaps h", "1 ; ( b * a )")

    def test_a_kind_beyond_the_bounds(self):
        kind = shown_kind(chain(12))
        self.answers(desk_of(f"draft d ( y : {kind} => [ {kind} ] )"), "kind d", f"( {kind} -> {kind} )")
        self.answers(desk_of("draft d " + "( y : a => " * 30 + "y" + " )" * 30), "kind d", "( a -> " * 30 + "a" + " )" * 30)

    def test_names(self):
        desk = desk_of("given z a", "given b a", "draft y #", "draft ab #", "draft aa #", "draft a #")
        self.answers(desk, "names", "z b ; a aa ab y")
        self.answers(Desk(), "names", ";")
        self.answers(desk_of("draft d #"), "names", "; d")
        self.answers(desk_of("given d 1"), "names", "d ;")

    def test_long(self):
        desk = desk_of(*ROWS)
        self.answers(desk, "long g", "( x0 : a => ( ( f p ) x0 ) )", "draft g ( ( y : a => ( ( f y ) y ) ) q )", "ok",
                     "long g", "( ( f q ) q )", "draft g { # , p }", "ok", "long g", "{ # , p }")
        self.refused(desk, NoGap, "long d", "long e", "long h")
        self.refused(desk, NoName, "long z", "long p", "long ")

    def test_long_whatever_its_size(self):
        tree = "p"
        for _ in range(5):
            tree = f"( ( y : a => ( ( s y ) y ) ) {tree} )"
        desk = desk_of("given s ( a -> ( a -> a ) )", "given p a", f"draft d {tree}")
        self.assertEqual(desk.say("long d").split().count("p"), 32)
        desk = desk_of("given f ( ( a -> a ) -> a )", "draft d " + "( f " + "( y : a => ( f " * 38 + "( y : a => y )" + " ) )" * 38 + " )")
        self.assertTrue(desk.say("long d").startswith("( f ( x0 : a => ( f ( x1 : a => "))

    def test_long_of_more_than_400_parts(self):
        kind = "( a * a )"
        for _ in range(5):
            kind = f"( {kind} -> ( a * a ) )"
        told = desk_of(f"draft d ( y : {kind} => y )").say("long d")
        self.assertEqual(told, shown_program(long_form([], read_program(f"( y : {kind} => y )"))))
        with self.assertRaises(NoText):
            read_program(told)

    def test_too_long(self):
        tree = "p"
        for _ in range(9):
            tree = f"( ( y : a => ( ( s y ) y ) ) {tree} )"
        desk = desk_of("given s ( a -> ( a -> a ) )", "given p a", f"draft d {tree}", f"draft e {{ [ a ] , {tree} }}")
        self.refused(desk, TooLong, "long d")
        self.refused(desk, NoGap, "long e")

    def test_ask(self):
        desk = desk_of("given f ( a -> ( a -> b ) )", "given p a", "given q a", "draft d ( y : a => { ( ( f [ a ] ) y ) , [ ( a -> a ) ] } )")
        self.answers(desk, "ask d 0", "3", "ask d 1", "4", "draft d [ ( a * ( a * a ) ) ]", "ok", "ask d 0", "8",
                     "draft d { [ c ] , { [ 1 ] , [ b ] } }", "ok", "ask d 0", "none", "ask d 1", "1", "ask d 2", "4",
                     "given e ( a -> a )", "ok", "ask d 0", "none", "ask d 1", "1", "ask d 2", "endless")

    def test_ask_within_takes(self):
        # In a gap there is all that the takes round it take, by whatever name.
        desk = desk_of("draft d ( y : a => ( y : b => ( z : a => { [ a ] , { [ b ] , [ c ] } } ) ) )")
        self.answers(desk, "ask d 0", "2", "ask d 1", "1", "ask d 2", "none", "fill d 1", "ok", "fill d 0 1 1", "ok",
                     "show d", "( x0 : a => ( x1 : b => ( x2 : a => { x2 , { x1 , [ c ] } } ) ) )", "ask d 0", "none")

    def test_ask_too_many_programs(self):
        desk = desk_of("given p ( a * a )", "given q a", "given r b", "given s ( a -> ( a -> b ) )", "draft d { [ ( b * ( b * b ) ) ] , [ ( b * b ) ] }")
        self.refused(desk, TooMany, "ask d 0")
        self.answers(desk, "ask d 1", "100")
        # The least program with a ring has 411 parts.
        desk = desk_of("given p ( ( a -> d ) -> a )", "given q ( a -> ( a -> ( a -> ( a -> ( b * ( b -> d ) ) ) ) ) )",
                       "draft d [ ( d * d ) ]")
        self.refused(desk, TooMany, "ask d 0")
        self.refused(desk, NoTree, "why d 0")

    def test_why(self):
        desk = desk_of("draft d { [ a ] , { [ ( a -> b ) ] , [ ( ( ( a -> b ) -> a ) -> a ) ] } }")
        self.answers(desk, "why d 0", "{ ; }")
        for number, kind in enumerate(["a", "( a -> b )", "( ( ( a -> b ) -> a ) -> a )"]):
            self.assertIs(barred_by(desk.say(f"why d {number}"), [], read_kind(kind)), True)
        desk = desk_of("given p a", "given q ( b -> c )", "draft d ( y : b => [ e ] )")
        self.assertIs(barred_by(desk.say("why d 0"), [A, read_kind("( b -> c )")], read_kind("( b -> e )")), True)

    def test_the_text_of_a_tree(self):
        self.assertEqual(shown_tree(([], [])), "{ ; }")
        self.assertEqual(shown_tree((["a"], [(["a", "b"], [])])), "{ a ; { a b ; } }")
        self.assertEqual(shown_tree(([], [([], [(["b"], [])]), (["a", "bc"], [])])), "{ ; { ; { b ; } } { a bc ; } }")
        seen = set()
        for kind in ("a", "( a -> b )", "( ( a -> b ) -> a )", "( ( ( a -> b ) -> a ) -> a )", "( ( ( a -> b ) -> c ) -> ( a -> c ) )",
                     "( ( a -> b ) -> ( ( b -> a ) -> a ) )", "( ( ( ( a -> b ) -> c ) * ( ( b -> a ) -> c ) ) -> c )"):
            text = desk_of(f"draft d [ {kind} ]").say("why d 0")
            self.assertIs(barred_by(text, [], read_kind(kind)), True, text)
            seen.add(text.count("{"))
        self.assertGreater(len(seen), 2)

    def test_no_tree(self):
        desk = desk_of("given f ( a -> a )", "given p a", "draft d { [ a ] , { [ 1 ] , [ ( b -> b ) ] } }")
        self.refused(desk, NoTree, "why d 0", "why d 1", "why d 2")
        self.refused(desk, NoGap, "why d 3")

    def test_no_gap(self):
        desk = desk_of(*ROWS)
        for number in (2, 3, 10, 10 ** 29, 10 ** 30 - 1):
            self.refused(desk, NoGap, f"ask d {number}", f"why d {number}", f"fill d {number}", f"fill d {number} 1 0", f"ask g {number}")
        self.refused(desk, NoGap, "ask g 0", "why g 0", "fill g 0", "fill g 0 99 0", "ask e 1")

    def test_12_leaves_and_13(self):
        # The row has 4, the take 3, the gap's kind 5; one more leaf in each of these is one too many.
        rows = ["given f ( a -> a )", "given p ( a * 1 )", "draft d ( y : ( a * ( a * b ) ) => [ ( a * ( a * ( a * ( a * b ) ) ) ) ] )"]
        desk = desk_of(*rows)
        self.answers(desk, "ask d 0", "endless")
        self.refused(desk, NoTree, "why d 0")
        self.refused(desk, NoNumber, "fill d 0 3 0", "fill d 0 17 0")
        self.answers(desk, "fill d 0", "ok", "gaps d", "-", "undo", "ok")
        for more in ("given q 1", "draft d ( y : ( a * ( a * b ) ) => ( z : 1 => [ ( a * ( a * ( a * ( a * b ) ) ) ) ] ) )",
                     "draft d ( y : ( a * ( a * b ) ) => [ ( a * ( a * ( a * ( a * ( b * 1 ) ) ) ) ) ] )"):
            desk = desk_of(*rows, more)
            self.refused(desk, TooMany, "ask d 0", "why d 0", "fill d 0", "fill d 0 5 0", "fill d 0 17 0", "fill d 0 3 0")
            self.refused(desk, NoGap, "ask d 1", "fill d 1 17 0")
        self.answers(desk_of(*rows, "given q 1", "drop q"), "ask d 0", "endless")

    def test_a_given_name_counts_with_all_its_leaves(self):
        desk = desk_of("given p ( ( ( a * a ) * ( a * a ) ) * ( ( a * a ) * ( a * a ) ) )", "draft d [ ( ( a * a ) * ( 1 * 1 ) ) ]")
        self.answers(desk, "ask d 0", "64")
        desk = desk_of("given p ( ( ( a * a ) * ( a * a ) ) * ( ( a * a ) * ( a * a ) ) )", "given q 1", "draft d [ ( ( a * a ) * ( 1 * 1 ) ) ]")
        self.refused(desk, TooMany, "ask d 0")


def barred_by(text, given, kind):
    """Whether a tree's text bars a kind."""
    tree, rest = read_tree(text.split(" "))
    assert rest == []
    return bars_plainly([("p", each) for each in given], kind, tree)


def read_tree(words):
    """The tree that words write, and the words behind it."""
    assert words[0] == "{"
    at = words.index(";")
    marks, rest, trees = words[1:at], words[at + 1:], []
    while rest[0] != "}":
        tree, rest = read_tree(rest)
        trees.append(tree)
    assert marks == sorted(set(marks)) and "" not in marks
    return (marks, trees), rest[1:]


class Fill(DeskTest):
    def test_by_the_shortest(self):
        desk = desk_of("given f ( a -> a )", "given q a", "given p a", "draft d { [ a ] , [ ( b -> ( a * a ) ) ] }")
        self.answers(desk, "fill d 1", "ok", "show d", "{ [ a ] , ( x0 : b => { q , q } ) }", "fill d 0", "ok",
                     "show d", "{ q , ( x0 : b => { q , q } ) }", "gaps d", "-", "kind d", "( a * ( b -> ( a * a ) ) )")

    def test_by_size_and_number(self):
        rows = ["given f ( a -> a )", "given q a", "given p a", "draft d ( y : a => { b , [ a ] } )"]
        desk = desk_of("given b 1", *rows)
        row = [("b", ("one",)), ("f", to(A, A)), ("q", A), ("p", A)]
        for size, many in enumerate(counts_of(row, to(A, A), 8)):
            for number in range(many):
                program = of_size(row, to(A, A), size, number)
                self.answers(desk, f"fill d 0 {size} {number}", "ok", "show d", f"( x0 : a => {{ b , {shown_program(program[3])} }} )",
                             "undo", "ok")
            self.refused(desk, NoNumber, f"fill d 0 {size} {many}", f"fill d 0 {size} {10 ** 29}")
        self.refused(desk, NoNumber, "fill d 0 17 0", "fill d 0 0 0", "fill d 0 18 1", f"fill d 0 {10 ** 29} 0")
        self.answers(desk, "fill d 0 16 0", "ok")

    def test_where_none_can_stand(self):
        desk = desk_of("given p a", "draft d { [ b ] , [ ( a -> b ) ] }")
        self.refused(desk, NoNumber, "fill d 0", "fill d 1", "fill d 0 1 0", "fill d 1 0 0", "fill d 0 16 0", "fill d 0 17 0")

    def test_above_16_names(self):
        desk = desk_of("given p a", "given f ( a -> ( a -> ( a -> b ) ) )", "given g ( b -> ( b -> ( b -> c ) ) )", "draft d [ ( c * ( c * c ) ) ]")
        self.assertEqual(desk.say("ask d 0"), "1")
        self.answers(desk, "fill d 0", "ok", "gaps d", "-", "kind d", "( c * ( c * c ) )")
        self.assertEqual(size_of(read_program(desk.say("show d"))), 39)
        self.assertEqual(desk.say("long d"), desk.say("show d"))

    def test_within_takes(self):
        # The program stands within the takes that are there, and its own takes go on behind them.
        desk = desk_of("given e ( ( a -> b ) -> b )", "draft d ( y : ( a -> b ) => ( z : a => ( w : b => [ ( a -> b ) ] ) ) )")
        told = {}
        for number in range(3):
            desk.say(f"fill d 0 2 {number}")
            told[number] = desk.say("show d")
            read = read_program(told[number])
            self.assertEqual(shown_kind(kind_of([("e", to(to(A, B), B))], read)), desk.say("kind d"))
            self.assertEqual(desk.say("long d"), told[number])
            self.assertEqual(number_of([("e", to(to(A, B), B))], kind_of([("e", to(to(A, B), B))], read), read), (2, number))
            desk.say("undo")
        head, tail = "( x0 : ( a -> b ) => ( x1 : a => ( x2 : b => ( x3 : a => ", " ) ) ) )"
        self.assertEqual([told[number] for number in range(3)], [
            head + inner + tail for inner in ("( e ( x4 : a => x2 ) )", "( x0 x1 )", "( x0 x3 )")])
        self.refused(desk, NoNumber, "fill d 0 2 3")

    def test_gaps_are_numbered_anew(self):
        desk = desk_of("given p a", "given q b", "draft d { [ a ] , { [ b ] , [ a ] } }")
        self.answers(desk, "fill d 1", "ok", "gaps d", "a ; a", "fill d 1", "ok", "gaps d", "a", "show d", "{ [ a ] , { q , p } }",
                     "fill d 0", "ok", "show d", "{ p , { q , p } }")
        self.refused(desk, NoGap, "fill d 0")

    def test_400_parts_and_401(self):
        # The filled gap has three parts more: f is given p, or five.
        rows = ["given f ( a -> a )", "given p a"]
        for own, fits in ((396, True), (397, True), (398, True), (399, False)):
            draft = "{ [ a ] , " + shown_program(heap_of_things(own - 2)) + " }"
            desk = desk_of(*rows, f"draft d {draft}")
            self.assertEqual(parts_in(draft), own)
            if fits:
                self.answers(desk, "fill d 0 2 0", "ok")
                self.assertEqual(parts_of(read_program(desk.say("show d"))), own + 2)
            else:
                self.refused(desk, TooMany, "fill d 0 2 0", "fill d 0 3 0")
                self.answers(desk, "fill d 0", "ok", "show d", draft.replace("[ a ]", "p"))

    def test_the_shortest_too_large(self):
        row = [f"given {text} {kind}" for text, kind in zip("pfg", ["a", "( a -> ( a -> ( a -> b ) ) )", "( b -> ( b -> ( b -> c ) ) )"])]
        # 25 parts: 13 names, and as often as one is given something.
        for own, fits in ((375, True), (376, True), (377, False)):
            desk = desk_of(*row, "draft d { [ c ] , " + shown_program(heap_of_things(own - 2)) + " }")
            if fits:
                self.answers(desk, "fill d 0", "ok", "gaps d", "-")
            else:
                self.refused(desk, TooMany, "fill d 0")

    def test_80_deep_and_81(self):
        for takes, fits in ((77, True), (78, True), (79, False), (80, False)):
            desk = desk_of("given f ( a -> a )", "given p a", "draft d " + "{ # , " * takes + "[ a ]" + " }" * takes)
            if fits:
                self.answers(desk, "fill d 0 3 0", "ok")
                self.assertEqual(deep_of(read_program(desk.say("show d"))), takes + 2)
            else:
                self.refused(desk, TooMany, "fill d 0 3 0")
                self.answers(desk, "fill d 0 1 0", "ok")

    def test_all_that_can_stand_there(self):
        desk = desk_of("given p a", "given f ( a -> ( a -> b ) )", "draft d ( y : a => [ ( b * a ) ] )")
        many = int(desk.say("ask d 0"))
        seen = set()
        for size in range(17):
            for number in range(many):
                if answer(desk, f"fill d 0 {size} {number}") == "ok":
                    seen.add(desk.say("show d"))
                    self.assertEqual(desk.say("kind d"), "( a -> ( b * a ) )")
                    desk.say("undo")
        self.assertEqual(len(seen), many)


def heap_of_things(parts):
    """A draft of so many parts, not deep, that fits."""
    if parts == 1:
        return ("thing",)
    if parts == 2:
        return ("take", "x0", ("one",), ("thing",))
    one = (parts - 1) // 2
    return ("pair", heap_of_things(one), heap_of_things(parts - 1 - one))


def parts_in(text):
    return parts_of(read_draft(text))


class Undo(DeskTest):
    def test_each_deed(self):
        desk = desk_of(*ROWS)
        deeds = ["given z c", "drop q", "draft k p", "draft d #", "forget e", "fill d 0", "fill d 0 1 0", "fill h 0", "forget h", "drop q"]
        for deed in deeds:
            kept = all_of(desk)
            self.answers(desk, deed, "ok")
            self.assertNotEqual(all_of(desk), kept)
            self.answers(desk, "undo", "ok")
            self.assertEqual(all_of(desk), kept)

    def test_one_behind_the_other(self):
        desk = Desk()
        kept = []
        deeds = ROWS + ["fill d 1", "fill d 0 1 0", "drop q", "given q c", "fill e 0", "draft e #", "forget d", "given z 1", "fill h 0"]
        for deed in deeds:
            kept.append(all_of(desk))
            self.answers(desk, deed, "ok")
        for told in kept[::-1]:
            self.answers(desk, "undo", "ok")
            self.assertEqual(all_of(desk), told)
        self.refused(desk, NoUndo, "undo")

    def test_a_dropped_name_stands_where_it_stood(self):
        desk = desk_of("given p a", "given q b", "given r c", "drop q", "undo")
        self.answers(desk, "names", "p q r ;")

    def test_questions_and_refusals_are_no_deeds(self):
        desk = desk_of(*ROWS)
        kept = all_of(desk)
        self.answers(desk, "given z c", "ok")
        for row in ASKED + ["given z c", "given y (", "drop p", "drop y", "draft d (", "draft d y", "forget y", "fill d 7", "fill d 0 9 9"]:
            self.assertNotEqual(answer(desk, row), "ok")
        self.answers(desk, "undo", "ok")
        self.assertEqual(all_of(desk), kept)

    def test_an_undo_is_no_deed(self):
        desk = desk_of("given p a", "given q a", "undo", "undo")
        self.refused(desk, NoUndo, "undo")
        self.answers(desk, "names", ";", "given q b", "ok", "undo", "ok", "names", ";")
        self.refused(desk, NoUndo, "undo")

    def test_nothing_to_undo(self):
        self.refused(Desk(), NoUndo, "undo")


class NoRows(DeskTest):
    def test_none_of_the_rows(self):
        for row in ("", " ", "  ", "Given p a", "give p a", "GIVEN p a", "name", "shows d", "undo2", "un do", "(", "p", "d", "\tnames",
                    "names\n", "names\t", "0", ";", "kinds d", "None"):
            self.refused(desk_of(*ROWS), NoRow, row)

    def test_too_few_words_and_too_many(self):
        for rows in (["given", "given z", "given "], ["draft", "draft d", "draft "], ["drop", "drop p q", "drop q "], ["forget", "forget d e", "forget d "],
                     ["show", "show d e", "show d ", "show  d"], ["kind", "kind d d", "kind d "], ["gaps", "gaps d 0", "gaps d "],
                     ["names d", "names ", "names  "], ["long", "long d 0", "long g "], ["ask", "ask d", "ask d 0 0", "ask d 0 ", "ask  d 0"],
                     ["why", "why e", "why e 0 0", "why e 0 "], ["fill", "fill d", "fill d 0 0", "fill d 0 1 0 0", "fill d 0 ", "fill d 0 1 0 "],
                     ["undo 1", "undo ", "undo d"], [" names", " undo", " show d", " given z a"]):
            self.refused(desk_of(*ROWS), NoRow, *rows)

    def test_figures(self):
        for text in ("", "00", "01", "-1", "+1", "1.0", "a", "x0", "1 ", "0x1", "1_0", "#", "1\n", "1" * 31, "0" * 30, "1" + "0" * 30, "00" * 15, "%"):
            if " " not in text:
                self.refused(desk_of(*ROWS), NoRow, f"ask d {text}", f"why d {text}", f"fill d {text}", f"fill d {text} 1 0", f"fill d 0 {text} 0",
                             f"fill d 0 1 {text}", f"ask z {text}")
        many = "9" * 30
        self.refused(desk_of(*ROWS), NoGap, f"ask d {many}", f"why d {many}", f"fill d {many}", f"fill d {many} {many} {many}")
        self.refused(desk_of(*ROWS), NoNumber, f"fill d 0 {many} 0", f"fill d 0 1 {many}")

    def test_an_empty_kind_and_an_empty_text(self):
        self.refused(desk_of(*ROWS), NoKind, "given z ")
        self.refused(desk_of(*ROWS), NoText, "draft z ")

    def test_what_is_told_first(self):
        desk = desk_of(*ROWS)
        self.refused(desk, NoRow, "ask z 00", "drop z z", "fill Z 0 1", "fill z 0 01 1", "draft Z", "given Z")
        self.refused(desk, NoName, "given X (", "draft X (", "ask z 9", "fill z 9 99 9", "long z", "why z 0", "drop z", "given x9 ")
        self.refused(desk, Twice, "given f (")
        self.refused(desk, NoText, "draft d ( p p")
        self.refused(desk, NoFit, "draft f ( p p )")
        self.refused(desk, NoGap, "fill d 9 99 9")
        self.refused(desk, NoNumber, "fill d 0 99 9")
        # More than 12 leaves ahead of what the stages refuse, a gap that there is not ahead of them.
        desk = desk_of(*ROWS, "given z ( a * ( a * ( a * ( a * ( a * ( a * a ) ) ) ) ) )")
        self.refused(desk, TooMany, "ask d 0", "why d 0", "fill d 0 99 9", "fill d 0 1 99", "fill e 0", "why e 0", "ask e 0")
        self.refused(desk, NoGap, "ask d 2", "fill d 2 99 9", "why g 0")
        # What stands in no draft is dropped, what stands in one is not.
        self.refused(desk, Used, "drop f")


class Desks(DeskTest):
    def test_three_desks_told_the_same_rows(self):
        random = Random(37)
        rows = random_talk(random, 400)
        desks = [Desk(), Desk(), Desk()]
        for row in rows:
            told = [answer(desk, row) for desk in desks]
            self.assertEqual(len(set(told)), 1, row)

    def test_what_is_done_at_one_changes_nothing_at_another(self):
        one, other = desk_of(*ROWS), desk_of(*ROWS)
        kept = all_of(other)
        for row in ["given z c", "drop q", "fill d 0", "forget e", "draft h #", "undo", "undo", "draft k p"]:
            self.answers(one, row, "ok")
            self.assertEqual(all_of(other), kept)
        self.answers(Desk(), "names", ";")

    def test_by_the_words_of_the_document(self):
        seen = {}
        for seed in range(25):
            random = Random(seed)
            desk, plain = Desk(), PlainDesk()
            # In some talks names are given more often than in others: up to eight of them.
            for row in random_talk(random, 250, 3 + 20 * (seed % 5 == 0)):
                told = answer(desk, row)
                self.assertEqual(told, answer(plain, row), row)
                key = row.split(" ")[0] + " " + (told if told in ERRORS + ["ok", "none", "endless"] else "told")
                seen[key] = seen.get(key, 0) + 1
        for key in ("given ok", "given Twice", "given NoKind", "given TooMany", "given NoName", "drop ok", "drop Used", "drop NoName",
                    "draft ok", "draft NoText", "draft NoFit", "draft NoName", "forget ok", "forget NoName", "show told", "kind told",
                    "gaps told", "names told", "long told", "long NoGap", "ask told", "ask none", "ask endless", "ask NoGap", "ask TooMany",
                    "why told", "why NoTree", "why NoGap", "why TooMany", "fill ok", "fill NoNumber", "fill NoGap", "fill TooMany",
                    "undo ok", "undo NoUndo", "ask NoRow", "fill NoRow"):
            self.assertGreater(seen.get(key, 0), 4, key)


ERRORS = [error.__name__ for error in KindError.__subclasses__()]
NAMES = ["p", "q", "f", "e", "d", "g"]
KINDS = ["a", "b", "1", "( a -> a )", "( a -> b )", "( a * b )", "( ( a -> b ) -> a )", "( b -> ( a -> a ) )"]
PIECES = ["p", "q", "f", "y", "#", "[ a ]", "[ b ]", "[ 1 ]", "[ ( a -> b ) ]", "[ ( ( a -> b ) -> b ) ]", "( f p )", "( f [ a ] )", "( q [ a ] )",
          "( y : a => [ b ] )", "( y : a => ( y : ( a -> b ) => [ b ] ) )", "( y : b => { y , [ a ] } )", "( ( y : a => { y , y } ) [ a ] ) .1",
          "{ [ a ] , [ ( a * a ) ] }", "( e [ ( a -> a ) ] )", "{ # , ( z : 1 => [ ( b -> b ) ] ) }", "( p", "{ p , }", "( y : a => x0 )"]


def random_talk(random, many, giving=3):
    """Rows as a desk may be told, most of them rows of its own."""
    told = []
    for _ in range(many):
        word = random.choice(["given"] * giving + ["draft"] * 5 + ["drop", "forget", "show", "kind", "gaps", "names", "long", "ask", "ask", "why", "why"]
                             + ["fill"] * 4 + ["undo"] * 2)
        names = NAMES + ["r", "s", "t", "u", "v"] if giving > 3 else NAMES
        text = random.choice(names if random.random() < 0.97 else ["", "P", "x1", "abcdefg"])
        row = [word] if word in ("names", "undo") else [word, text]
        if word == "given":
            row.append(random.choice(KINDS if random.random() < 0.95 else ["", "A", "( a )", " a"]))
        if word == "draft":
            row.append(random.choice(PIECES if random.random() < 0.97 else ["", " ", "[ ]"]))
        if word in ("ask", "why", "fill"):
            row.append(str(random.choice([0, 0, 0, 1, 2])) if random.random() < 0.97 else random.choice(["", "00", "-1", "9" * 30, "9" * 31]))
        if word == "fill" and random.random() < 0.6:
            row += [str(random.choice([0, 1, 2, 2, 3, 4, 16, 17])), str(random.choice([0, 0, 0, 1, 2, 5]))]
        if random.random() < 0.01:
            row.append("")
        told.append(" ".join(row))
    return told


if __name__ == "__main__":
    unittest.main()
