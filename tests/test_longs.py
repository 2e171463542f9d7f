"""Plain long programs [16], plain long forms and sizes [17], and that both go together [18]."""

import unittest
from random import Random

from plainly import form_of, is_plain_long, longs_to, places_of, random_programs, random_rows, step_at
from samples import (A, B, C, ONE, THING, both, bush, crown, first, give, grove, name, pair, second, take, thicket,
                     to, tower)

from kindfill.errors import NoFit, TooLong
from kindfill.fitting import kind_of
from kindfill.kindtexts import read_kind
from kindfill.longs import is_long, long_form, size_of
from kindfill.programs import deep_of, part_at, parts_of
from kindfill.progtexts import read_program, shown_program
from kindfill.steps import run, stepped

ROW = [("p", A), ("q", both(A, B)), ("f", to(A, B)), ("g", to(to(A, B), A)), ("h", to(both(A, B), both(C, to(B, C)))),
       ("i", to(ONE, A)), ("k", both(to(A, A), ONE))]
P, Q, F, G, H, I, K, Y = [name(text) for text in "pqfghiky"]
X0, X1, X2 = name("x0"), name("x1"), name("x2")
LONG = [
    (ONE, THING), (A, P), (A, first(Q)), (B, second(Q)), (B, give(F, P)), (B, give(F, first(Q))), (both(A, B), pair(P, second(Q))),
    (both(ONE, ONE), pair(THING, THING)), (to(A, A), take("x0", A, X0)), (to(A, A), take("x0", A, P)),
    (to(A, ONE), take("x0", A, THING)), (to(A, B, A), take("x0", A, take("x1", B, X0))),
    (to(A, both(A, ONE)), take("x0", A, pair(X0, THING))), (both(to(A, A), to(A, A)), pair(*[take("x0", A, X0)] * 2)),
    (A, give(G, take("x0", A, give(F, X0)))), (A, give(G, take("x0", A, second(Q)))), (A, give(I, THING)),
    (A, give(first(K), P)), (A, give(first(K), give(first(K), P))), (C, first(give(H, pair(P, give(F, P))))),
    (C, give(second(give(H, pair(first(Q), second(Q)))), second(Q))),
    (to(both(A, B), A), take("x0", both(A, B), first(X0))), (to(to(A, B), B), take("x0", to(A, B), give(X0, P))),
    (to(to(A, B), A), take("x0", to(A, B), give(G, take("x1", A, give(X0, X1))))),
    (to(to(A, B), A), take("x0", to(A, B), give(G, take("x1", A, give(X0, give(G, take("x2", A, give(F, X2)))))))),
    (to(to(to(A, A), C), C), take("x0", to(to(A, A), C), give(X0, take("x1", A, X1)))),
]
NOT_LONG = [
    # Of each form of kind, by another form of program.
    (ONE, P), (ONE, K), (ONE, second(K)), (ONE, pair(THING, THING)), (A, THING), (A, take("x0", A, X0)), (A, pair(P, P)),
    (both(A, B), Q), (both(A, B), THING), (both(A, B), take("x0", A, P)), (to(A, B), F), (to(A, B), THING),
    (to(A, B), give(F, P)), (to(A, B), pair(P, P)), (to(both(A, B), A), take("x0", both(A, B), X0)),
    # Another name of a take, another kind at it.
    (to(A, A), take("x1", A, name("x1"))), (to(A, A), take("y", A, Y)), (to(A, A), take("p", A, P)),
    (to(A, A), take("x00", A, name("x00"))), (to(A, A), take("x0", B, P)), (to(A, A), take("x0", ONE, P)),
    (to(A, B, A), take("x0", A, take("x0", B, P))), (to(A, B, A), take("x1", A, take("x0", B, P))),
    (to(A, B, A), take("x0", A, take("x2", B, P))), (both(to(A, A), to(A, A)), pair(take("x0", A, X0), take("x1", A, X1))),
    (A, give(G, take("x1", A, give(F, X1)))),
    # A name that is not there.
    (A, name("nobody")), (A, X0), (A, name("x")), (to(A, A), take("x0", A, X1)), (to(A, A), take("x0", A, name("x00"))),
    (both(to(A, A), A), pair(take("x0", A, X0), X0)), (both(A, to(A, A)), pair(X0, take("x0", A, X0))),
    (A, give(G, take("x0", A, give(F, X1)))), (B, give(G, take("x0", A, give(F, X0)))),
    # A way not gone to its end, or not a way.
    (A, Q), (A, F), (B, F), (A, second(Q)), (B, first(Q)), (A, first(P)), (A, second(P)), (A, give(P, P)), (A, give(Q, P)),
    (B, first(F)), (B, second(F)), (B, give(F, Q)), (B, give(F, THING)), (B, give(F, second(Q))), (C, give(H, Q)),
    (C, first(give(H, Q))), (C, second(give(H, pair(P, give(F, P))))), (A, first(K)), (A, second(K)), (ONE, give(I, THING)),
    (A, give(I, second(K))), (A, give(I, pair(THING, THING))), (A, give(G, F)), (A, first(first(Q))), (B, give(give(F, P), P)),
    # A part at which a step could be done.
    (A, give(take("x0", A, X0), P)), (A, first(pair(P, P))), (B, second(pair(P, give(F, P)))),
    (B, give(F, first(pair(P, P)))), (ONE, first(pair(THING, THING))), (ONE, give(take("x0", A, THING), P)),
    (to(A, A), take("x0", A, give(take("x1", A, X1), X0))), (both(A, A), first(pair(pair(P, P), P))),
    # Another kind.
    (B, P), (C, P), (ONE, P), (to(A, B), take("x0", A, X0)), (to(B, A), take("x0", A, P)), (both(A, B), pair(second(Q), P)),
    (both(A, both(A, A)), pair(pair(P, P), P)), (both(A, A), pair(P, THING)), (both(A, A), pair(THING, P)),
]


DEEP_ROW = [("p", A), ("e", to(A, A)), ("s", to(A, A, A, A)), ("h", to(to(A, A), A)), ("k", both(to(ONE, A), to(A, both(A, A)))),
            ("z", to(both(ONE, both(to(A, A, A), A)), A)), ("w", both(both(A, to(A, A, A)), both(ONE, A)))]


def deep_one(random):
    """A program that has a kind by the row, and of which the form is some 100 deep."""
    e, s, h, k, z, w = [name(text) for text in "eshkzw"]
    forms = [
        lambda inner: give(e, inner), lambda inner: give(s, inner, P, P), lambda inner: give(s, P, inner, P),
        lambda inner: give(s, P, P, inner), lambda inner: give(h, take("y", A, inner)), lambda inner: first(give(second(k), inner)),
        lambda inner: second(give(second(k), inner)), lambda inner: give(z, pair(THING, pair(take("u", A, take("v", A, inner)), P))),
        lambda inner: give(z, pair(THING, pair(second(first(w)), inner))), lambda inner: give(h, give(s, inner, P)),
        lambda inner: give(h, give(s, P, inner)), lambda inner: give(second(first(w)), P, inner),
    ]
    program = random.choice([P, give(h, e), second(second(w)), first(first(w)), give(z, pair(THING, pair(second(first(w)), P))),
                             give(h, give(s, P, P))])
    for _ in range(random.choice([5, 12, 20, 24, 26, 28, 30])):
        program = random.choice(forms)(program)
    if random.random() < 0.3:
        program = pair(program, random.choice([w, h, z, s]))
    for _ in range(random.randint(20, 50)):
        program = random.choice([lambda inner: pair(inner, THING), lambda inner: pair(P, inner), lambda inner: take("n", B, inner)])(program)
    return program


class IsLong(unittest.TestCase):
    def test_plain_long_ones(self):
        for kind, program in LONG:
            self.assertIs(is_long(ROW, kind, program), True, shown_program(program))
            self.assertEqual(kind_of(ROW, program), kind)

    def test_near_misses(self):
        for kind, program in NOT_LONG:
            self.assertIs(is_long(ROW, kind, program), False, shown_program(program))

    def test_another_kind_asked(self):
        kinds = [kind for kind, program in LONG]
        for kind, program in LONG:
            for other in kinds:
                self.assertIs(is_long(ROW, other, program), other == kind)

    def test_only_the_names_of_the_row(self):
        self.assertIs(is_long([], A, P), False)
        self.assertIs(is_long([("p", B)], A, P), False)
        self.assertIs(is_long([("p", B)], B, P), True)
        self.assertIs(is_long([], to(A, A), take("x0", A, X0)), True)
        self.assertIs(is_long([("x", A)], to(B, A), take("x0", B, name("x"))), True)

    def test_all_small_ones_and_those_bent_in_one_part(self):
        ends = [P, Q, F, X0, X1, THING, first(Q), take("x0", A, X0), pair(P, P), name("no")]
        for row, kind in random_rows(16, 60, 8):
            for program in longs_to(row, kind, 3)[:20]:
                self.assertIs(is_long(row, kind, program), True)
                for place in all_places(program):
                    for end in ends:
                        other = with_part(program, place, end)
                        self.assertIs(is_long(row, kind, other), is_plain_long(row, kind, other))

    def test_of_any_program(self):
        for program in random_programs(161, 400, ROW):
            kind = kind_of(ROW, program)
            self.assertIs(is_long(ROW, kind, program), is_plain_long(ROW, kind, program))
            self.assertIs(is_long([], kind, program), is_plain_long([], kind, program))
        deep = P
        for _ in range(80):
            deep = first(deep)
        self.assertIs(is_long(ROW, A, deep), False)

    def test_far_beyond_the_bounds(self):
        program, told = P, 0
        for _ in range(3000):
            program = give(first(K), program)
        self.assertIs(is_long(ROW, A, program), True)
        self.assertIs(is_long(ROW, B, program), False)
        self.assertEqual(size_of(program), 3001)
        program = give(F, P)
        for number in range(2000, 0, -1):
            program = give(F, give(G, take(f"x{number - 1}", A, program)))
        self.assertIs(is_long(ROW, B, program), True)
        self.assertIs(is_long(ROW[:3], B, program), False)

    def test_takes_beyond_the_hundredth(self):
        program = give(F, name("x100"))
        for number in range(101, 0, -1):
            program = give(F, give(G, take(f"x{number - 1}", A, program)))
        self.assertIs(is_long(ROW, B, program), True)


def all_places(program, place=()):
    told = [list(place)]
    for step in (0, 1):
        inner = part_at(program, [step])
        if inner:
            told += [[step, *below] for below in all_places(inner)]
    return told


def with_part(program, place, other):
    if not place:
        return other
    at = 3 if program[0] == "take" else 1 + place[0]
    return (*program[:at], with_part(program[at], place[1:], other), *program[at + 1:])


class SizeOf(unittest.TestCase):
    def test_how_many_names(self):
        for program, size in [(THING, 0), (P, 1), (first(Q), 1), (give(F, P), 2), (pair(P, give(F, P)), 3),
                              (take("x0", A, THING), 0), (take("x0", A, X0), 1), (pair(THING, THING), 0),
                              (give(G, take("x0", A, give(F, X0))), 3), (give(I, THING), 1)]:
            self.assertEqual(size_of(program), size)


class LongForm(unittest.TestCase):
    def test_made_long_alone(self):
        for text, told in [
            ("p", "p"), ("q", "{ q .1 , q .2 }"), ("f", "( x0 : a => ( f x0 ) )"), ("k .2", "#"), ("#", "#"),
            ("k", "{ ( x0 : a => ( k .1 x0 ) ) , # }"), ("g", "( x0 : ( a -> b ) => ( g ( x1 : a => ( x0 x1 ) ) ) )"),
            ("i", "( x0 : 1 => ( i # ) )"), ("( g f )", "( g ( x0 : a => ( f x0 ) ) )"), ("( i k .2 )", "( i # )"),
            ("( h q )", "{ ( h { q .1 , q .2 } ) .1 , ( x0 : b => ( ( h { q .1 , q .2 } ) .2 x0 ) ) }"),
            ("( y : 1 => y )", "( x0 : 1 => # )"), ("( y : ( a * b ) => y )", "( x0 : ( a * b ) => { x0 .1 , x0 .2 } )"),
            ("( y : ( a -> b ) => { y , f } )",
             "( x0 : ( a -> b ) => { ( x1 : a => ( x0 x1 ) ) , ( x1 : a => ( f x1 ) ) } )"),
            ("{ k .2 , { q , k .2 } }", "{ # , { { q .1 , q .2 } , # } }"),
            ("( y : a => ( z : b => q ) )", "( x0 : a => ( x1 : b => { q .1 , q .2 } ) )"),
        ]:
            self.assertEqual(shown_program(long_form(ROW, read_program(text))), told)

    def test_of_functions_of_functions(self):
        row = [("m", read_kind("( ( ( a -> b ) -> c ) -> ( a -> ( b * 1 ) ) )"))]
        self.assertEqual(
            shown_program(long_form(row, name("m"))),
            "( x0 : ( ( a -> b ) -> c ) => ( x1 : a => { ( ( m ( x2 : ( a -> b ) => ( x0 ( x3 : a => ( x2 x3 ) ) ) ) ) x1 )"
            " .1 , # } ) )")

    def test_by_steps_first(self):
        for text, told in [
            ("( ( y : a => y ) p )", "p"), ("{ p , f } .2", "( x0 : a => ( f x0 ) )"),
            ("( ( y : ( a * b ) => y ) q )", "{ q .1 , q .2 }"), ("{ q , # } .1 .2", "q .2"),
            ("( ( y : ( a -> b ) => { y , y } ) ( z : a => ( f z ) ) )",
             "{ ( x0 : a => ( f x0 ) ) , ( x0 : a => ( f x0 ) ) }"),
            ("( ( y : ( a -> b ) => ( g y ) ) f )", "( g ( x0 : a => ( f x0 ) ) )"),
            ("( ( y : ( ( a -> b ) -> a ) => ( y f ) ) ( z : ( a -> b ) => p ) )", "p"),
            ("( z : a => ( ( y : a => ( w : b => y ) ) z ) )", "( x0 : a => ( x1 : b => x0 ) )"),
        ]:
            self.assertEqual(shown_program(long_form(ROW, read_program(text))), told)

    def test_names_that_are_made_hide_none(self):
        # Where a take is made round a part, what is taken within has to be called anew.
        row = [("m", read_kind("( ( b -> a ) -> ( b -> a ) )")), ("p", A)]
        self.assertEqual(shown_program(long_form(row, read_program("( m ( y : b => p ) )"))),
                         "( x0 : b => ( ( m ( x1 : b => p ) ) x0 ) )")
        self.assertEqual(shown_program(long_form(row, read_program("( z : b => ( m ( y : b => ( ( m ( w : b => p ) ) z ) ) ) )"))),
                         "( x0 : b => ( x1 : b => ( ( m ( x2 : b => ( ( m ( x3 : b => p ) ) x0 ) ) ) x1 ) ) )")

    def test_many_programs(self):
        for program in random_programs(17, 800, ROW):
            told = long_form(ROW, program)
            self.assertEqual(told, form_of(ROW, program))
            self.assertIs(is_long(ROW, kind_of(ROW, program), told), True)

    def test_no_fit_with_its_place_ahead_of_too_long(self):
        row = [*ROW, ("s", to(A, A, A))]
        large = give(take("y", A, crown(40, Y)), grove(50))
        with self.assertRaises(TooLong):
            long_form(row, large)
        for program, place in [(name("no"), []), (pair(P, first(P)), [1]), (pair(large, give(F, Q)), [1]),
                               (pair(give(F, name("no")), large), [0, 1])]:
            with self.assertRaises(NoFit) as caught:
                long_form(row, program)
            self.assertEqual(caught.exception.place, place)

    def test_too_long_by_its_steps(self):
        program = take("y", A, Y)
        for _ in range(12):
            program = give(take("y", to(A, A), take("z", A, give(Y, give(Y, name("z"))))), program)
        with self.assertRaises(TooLong):
            long_form([], program)
        # Steps are done at the first place: what is gone on with by it may be too long though the form is short.
        short = second(pair(give(program, P), P))
        self.assertEqual(long_form(ROW, short), P)
        with self.assertRaises(TooLong):
            long_form(ROW, pair(give(program, P), P))

    def test_200_steps_and_201(self):
        for copies, more, told in ((99, 1, 200), (99, 2, 201), (99, 0, 199)):
            body = crown(copies, Y)
            for _ in range(more):
                body = first(pair(body, P))
            program = give(take("y", A, body), first(pair(first(pair(P, P)), P)))
            self.assertLessEqual(parts_of(program), 400)
            if told <= 200:
                self.assertEqual(len(run(program)[1]), told)
                self.assertEqual(long_form(ROW, program), crown(copies, P))
            else:
                with self.assertRaises(TooLong):
                    long_form(ROW, program)

    def test_1500_parts_and_1501(self):
        # Made long, m has 10 parts: three takes, three gives, three things and itself.
        row = [("m", to(ONE, ONE, ONE, A)), ("q", both(A, B))]
        for parts in (1499, 1500, 1501, 1502):
            program = pair(crown(130, name("m")), thicket(parts - 11 * 130))
            self.assertLessEqual(parts_of(program), 400)
            self.assertEqual(parts_of(form_of(row, program)), parts)
            if parts <= 1500:
                self.assertEqual(long_form(row, program), form_of(row, program))
            else:
                with self.assertRaises(TooLong):
                    long_form(row, program)

    def test_kinds_by_which_the_form_is_far_too_large(self):
        kind = A
        for _ in range(10):
            kind = to(kind, both(A, A))
        for program in (Y, pair(Y, Y), take("z", kind, name("z")), crown(200, Y)):
            with self.assertRaises(TooLong):
                long_form([("y", kind)], program)
        with self.assertRaises(TooLong):
            long_form([("y", bush(24))], crown(150, Y))

    def test_100_deep_and_101(self):
        # Made long, each g has a take and two gives round what it is given.
        row = [("f", to(A, A)), ("g", to(to(A, A), to(A, A)))]
        for gives, pairs in [(32, 0), (32, 1), (32, 2), (32, 3), (31, 4), (31, 5), (31, 6), (33, 0), (26, 20), (26, 21)]:
            program = name("f")
            for _ in range(gives):
                program = give(name("g"), program)
            program = tower(pairs, program)
            self.assertEqual(deep_of(form_of(row, program)), 3 * gives + 2 + pairs)
            if 3 * gives + 2 + pairs <= 100:
                self.assertEqual(long_form(row, program), form_of(row, program))
            else:
                with self.assertRaises(TooLong):
                    long_form(row, program)

    def test_100_deep_and_101_in_all_forms(self):
        random = Random(170)
        seen = {99: 0, 100: 0, 101: 0, 102: 0}
        while min(seen.values()) < 12:
            program = deep_one(random)
            deep = deep_of(form_of(DEEP_ROW, program))
            if deep in seen:
                seen[deep] += 1
                if deep <= 100:
                    self.assertEqual(long_form(DEEP_ROW, program), form_of(DEEP_ROW, program))
                else:
                    self.assertRaises(TooLong, long_form, DEEP_ROW, program)

    def test_100_deep_and_101_by_names_of_deep_kinds(self):
        left = right = turned = taken = A
        for number in range(12):
            left, right, taken = both(left, A), both(A, right), to(A, taken)
            turned = (both(turned, ONE), to(ONE, turned), both(ONE, turned))[number % 3]
        for kind in (left, right, turned, taken):
            deep = deep_of(form_of([("v", kind)], name("v")))
            for pairs in range(98 - deep, 103 - deep):
                program = tower(pairs, name("v"))
                if pairs + deep <= 100:
                    self.assertEqual(long_form([("v", kind)], program), form_of([("v", kind)], program))
                else:
                    self.assertRaises(TooLong, long_form, [("v", kind)], program)

    def test_1500_parts_and_1501_in_all_forms(self):
        random = Random(171)
        row = DEEP_ROW + [("q", both(A, B))]
        for _ in range(60):
            program = deep_one(random)
            while deep_of(form_of(row, program)) > 60 or parts_of(form_of(row, program)) > 500:
                program = deep_one(random)
            program = pair(crown(random.randint(1, 2), program), program)
            parts = parts_of(form_of(row, program))
            for whole in (1500, 1501):
                larger = pair(program, thicket(whole - parts - 1))
                if whole == 1500:
                    self.assertEqual(long_form(row, larger), form_of(row, larger))
                else:
                    self.assertRaises(TooLong, long_form, row, larger)

    def test_1500_parts_and_1501_of_what_is_put_in(self):
        # Behind the step m stands there so often, and each is made long to 10 parts; so are things that hold one.
        row = [("m", to(ONE, ONE, ONE, A)), ("q", both(A, B))]
        for given, kind, parts in [(name("m"), row[0][1], 10), (pair(name("m"), THING), both(row[0][1], ONE), 12)]:
            for whole in (1499, 1500, 1501, 1502):
                many = 1300 // (parts + 1)
                program = pair(give(take("y", kind, crown(many, Y)), given), thicket(whole - many * (parts + 1)))
                self.assertEqual(parts_of(form_of(row, program)), whole)
                if whole <= 1500:
                    self.assertEqual(long_form(row, program), form_of(row, program))
                else:
                    self.assertRaises(TooLong, long_form, row, program)

    def test_beyond_the_bounds_without_steps(self):
        program = P
        for _ in range(3000):
            program = give(first(K), program)
        with self.assertRaises(TooLong):
            long_form(ROW, program)

    def test_nothing_handed_in_is_changed(self):
        row = list(ROW)
        long_form(row, read_program("( y : a => ( p : b => ( g f ) ) )"))
        self.assertEqual(row, ROW)


class Together(unittest.TestCase):
    def test_two_that_come_to_one_another_by_steps_have_one_form(self):
        random = Random(18)
        for program in random_programs(18, 300, ROW):
            told = long_form(ROW, program)
            at = program
            while places_of(at):
                place = random.choice(places_of(at))
                self.assertEqual(stepped(at, place), step_at(at, place))
                at = stepped(at, place)
                self.assertEqual(long_form(ROW, at), told)

    def test_a_plain_long_program_is_its_own_form(self):
        for kind, program in LONG:
            self.assertEqual(long_form(ROW, program), program)
        for row, kind in random_rows(180, 60, 9):
            for program in longs_to(row, kind, 3)[:30]:
                self.assertEqual(long_form(row, program), program)


if __name__ == "__main__":
    unittest.main()
