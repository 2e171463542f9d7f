"""Steps [13], runs [14], and that all come to the same [15]."""

import unittest
from random import Random

from plainly import places_of, random_programs, step_at
from samples import (A, B, ONE, THING, both, crown, fed, first, give, grove, name, pair, second, take, thicket, to,
                     tower)

from kindfill.errors import NoStep, TooLong
from kindfill.fitting import kind_of, tidied
from kindfill.kindtexts import read_kind
from kindfill.places import step_places
from kindfill.programs import part_at, parts_of
from kindfill.progtexts import read_program
from kindfill.steps import run, stepped

ROW = [("p", A), ("q", both(A, B)), ("f", to(A, B)), ("g", to(to(A, B), A)), ("e", to(A, A)), ("s", to(A, A, A))]
P, Q, F, Y, Z, X0, X1 = [name(text) for text in ["p", "q", "f", "y", "z", "x0", "x1"]]
SAME = take("y", A, Y)
STEP = first(pair(P, THING))
SMALL = random_programs(13, 600, ROW)


class Stepped(unittest.TestCase):
    def test_each_form_at_the_top(self):
        for program, told in [
            (give(SAME, P), P), (give(take("y", A, pair(Y, Y)), P), pair(P, P)), (give(take("y", A, THING), P), THING),
            (give(take("y", A, F), P), F), (first(pair(P, THING)), P), (second(pair(P, THING)), THING),
            (first(pair(F, STEP)), F), (second(pair(STEP, Q)), Q),
            (give(take("y", A, take("z", B, Y)), P), take("x0", B, P)),
            (give(take("y", to(A, B), give(Y, P)), F), give(F, P)),
        ]:
            self.assertEqual(stepped(program, []), told)

    def test_each_form_within(self):
        for step, told in [(give(SAME, P), P), (first(pair(P, THING)), P), (second(pair(THING, P)), P)]:
            for program, place, behind in [
                (pair(step, Q), [0], pair(told, Q)), (pair(Q, step), [1], pair(Q, told)), (give(F, step), [1], give(F, told)),
                (take("z", B, step), [0], take("x0", B, told)), (first(pair(step, Q)), [0, 0], first(pair(told, Q))),
                (second(pair(Q, step)), [0, 1], second(pair(Q, told))),
                (give(give(take("z", A, F), step), P), [0, 1], give(give(take("x0", A, F), told), P)),
                (pair(THING, take("z", B, give(F, step))), [1, 0, 1], pair(THING, take("x0", B, give(F, told)))),
            ]:
                self.assertEqual(stepped(program, place), behind)

    def test_the_other_places_stay(self):
        program = pair(STEP, pair(give(SAME, P), STEP))
        self.assertEqual(stepped(program, [1, 0]), pair(STEP, pair(P, STEP)))
        self.assertEqual(stepped(program, [1, 1]), pair(STEP, pair(give(take("x0", A, X0), P), P)))
        self.assertEqual(stepped(give(SAME, STEP), []), STEP)
        self.assertEqual(stepped(give(take("y", A, pair(STEP, Y)), STEP), [0, 0, 0]),
                         give(take("x0", A, pair(P, X0)), STEP))

    def test_what_is_put_in_goes_on_to_stand_for_what_it_stood_for(self):
        for text, place, told in [
            # A take on the way has the same name as what is put in.
            ("( z : a => ( ( y : a => ( z : b => y ) ) z ) )", [0], "( x0 : a => ( x1 : b => x0 ) )"),
            ("( x1 : a => ( ( x0 : a => ( x1 : b => x0 ) ) x1 ) )", [0], "( x0 : a => ( x1 : b => x0 ) )"),
            ("( x0 : a => ( ( x1 : a => ( x0 : b => { x1 , x0 } ) ) x0 ) )", [0],
             "( x0 : a => ( x1 : b => { x0 , x1 } ) )"),
            # It is a given name that a take on the way hides.
            ("( ( y : a => ( p : b => y ) ) p )", [], "( x0 : b => p )"),
            ("( ( y : a => ( p : b => { p , y } ) ) p )", [], "( x0 : b => { x0 , p } )"),
            ("( p : b => ( ( y : b => ( p : a => { p , y } ) ) p ) )", [0], "( x0 : b => ( x1 : a => { x1 , x0 } ) )"),
            ("( ( y : a => { y , ( p : b => ( p : ( a * b ) => y ) ) } ) p )", [],
             "{ p , ( x0 : b => ( x1 : ( a * b ) => p ) ) }"),
            # It has takes of its own.
            ("( z : a => ( ( y : ( b -> a ) => ( z : b => ( y z ) ) ) ( y : b => z ) ) )", [0],
             "( x0 : a => ( x1 : b => ( ( x2 : b => x0 ) x1 ) ) )"),
            ("( ( f : ( a -> a ) => { f , ( x : a => ( f ( f x ) ) ) } ) ( x : a => x ) )", [],
             "{ ( x0 : a => x0 ) , ( x0 : a => ( ( x1 : a => x1 ) ( ( x1 : a => x1 ) x0 ) ) ) }"),
            # The name is taken again within: there it stands for that.
            ("( ( y : a => { y , ( y : b => y ) } ) p )", [], "{ p , ( x0 : b => x0 ) }"),
            ("( ( y : a => ( ( y : a => y ) y ) ) p )", [], "( ( x0 : a => x0 ) p )"),
            ("( ( y : a => ( ( y : a => y ) y ) ) p )", [0, 0], "( ( x0 : a => x0 ) p )"),
        ]:
            program = read_program(text)
            self.assertEqual(stepped(program, place), read_program(told))
            self.assertEqual(stepped(program, place), step_at(program, place))

    def test_behind_a_step_it_is_tidied(self):
        self.assertEqual(stepped(pair(take("z", A, Z), STEP), [1]), pair(take("x0", A, X0), P))
        self.assertEqual(stepped(take("z", A, give(take("y", A, take("w", B, Y)), Z)), [0]),
                         take("x0", A, take("x1", B, X0)))
        self.assertEqual(stepped(first(pair(take("f", A, name("f")), F)), []), take("x0", A, X0))

    def test_no_step_where_none_can_be_done(self):
        for program in [P, THING, SAME, pair(P, P), give(F, P), first(Q), second(Q), give(F, STEP), first(first(pair(Q, P))),
                        give(give(take("z", A, F), P), P)]:
            with self.assertRaises(NoStep):
                stepped(program, [])
        for place in ([0, 0], [0, 1], [1], [0]):
            with self.assertRaises(NoStep):
                stepped(first(pair(P, THING)), place)

    def test_no_step_where_there_is_no_part(self):
        program = first(pair(STEP, STEP))
        for place in ([1], [2], [-1], [0, 2], [0, -1], [0, -2], [0, 0, 1], [0, 0, 0, 0, 0], [10 ** 20], [0, 10 ** 20],
                      [0] * 5000):
            with self.assertRaises(NoStep):
                stepped(program, place)
        self.assertEqual(stepped(program, [0, 0]), first(pair(P, STEP)))

    def test_many_programs(self):
        for program in SMALL:
            for place in places_of(program):
                told = stepped(program, place)
                self.assertEqual(told, step_at(program, place))
                self.assertEqual(tidied(told), told)

    def test_nothing_handed_in_is_changed(self):
        place = [1, 0]
        stepped(pair(STEP, take("z", A, STEP)), place)
        self.assertEqual(place, [1, 0])

    def test_far_beyond_the_bounds(self):
        program = STEP
        for _ in range(3000):
            program = give(take("y", A, Y), program)
        told = stepped(program, [1] * 3000)
        self.assertEqual(parts_of(told), 3 * 3000 + 1)
        for _ in range(3000):
            told = told[2]
        self.assertEqual(told, P)


def of_steps(many):
    """A program of many steps to be done, the first one at the top, and of at most 400 parts."""
    copies, more = divmod(many - 1, 2)
    body = crown(copies, Y)
    for _ in range(more):
        body = first(pair(body, P))
    return give(take("y", A, body), first(pair(first(pair(P, P)), P)))


def growing_to(parts):
    """A program with one step, behind which it has so many parts, at least 1490."""
    return give(take("y", A, pair(crown(19, Y), thicket(parts - 19 * 78))), fed(38, P))


class Run(unittest.TestCase):
    def test_no_steps(self):
        for program in [P, THING, SAME, give(F, first(Q))]:
            self.assertEqual(run(program), (tidied(program), []))
        self.assertEqual(run(take("p", A, P), [7]), (take("x0", A, X0), []))

    def test_without_picks_the_first_place(self):
        program = pair(STEP, give(take("y", A, pair(Y, STEP)), STEP))
        log = [[0], [1], [1, 0], [1, 1]]
        told = (pair(P, pair(P, P)), log)
        self.assertEqual(run(program), told)
        self.assertEqual(run(program, None), told)
        self.assertEqual(run(program, []), told)
        self.assertEqual(run(program, [0]), told)
        self.assertEqual(run(program, [0, 0, 0, 0, 0, 0, 0]), told)

    def test_picks(self):
        program = pair(STEP, give(take("y", A, pair(Y, STEP)), STEP))
        self.assertEqual(step_places(program), [[0], [1], [1, 0, 0, 1], [1, 1]])
        for picks, log in [
            ([3], [[1, 1], [0], [1, 0, 0, 1], [1]]),
            ([1], [[1], [1, 0], [1, 1], [0]]),
            ([3, 0], [[1, 1], [0], [1, 0, 0, 1], [1]]),
            ([2, 2, 0, 0], [[1, 0, 0, 1], [1, 1], [0], [1]]),
            ([2, 2, 0, 0, 1, 2, 3], [[1, 0, 0, 1], [1, 1], [0], [1]]),
            ([2, 1, 1], [[1, 0, 0, 1], [1], [1, 0], [0]]),
            ([7], [[1, 1], [1], [1, 1], [0]]),
            ([10 ** 18], [[0], [1, 0, 0, 1], [1], [1, 0]]),
            ([10 ** 18 - 1, 10 ** 18], [[1, 1], [1], [1, 1], [0]]),
        ]:
            self.assertEqual(run(program, picks), (pair(P, pair(P, P)), log))

    def test_the_log_is_the_places(self):
        random = Random(5)
        for program in SMALL:
            picks = [random.randint(0, 10 ** 18) for _ in range(random.randint(1, 4))]
            told, log = run(program, picks)
            at = tidied(program)
            for number, place in enumerate(log):
                places = places_of(at)
                self.assertEqual(place, places[picks[number % len(picks)] % len(places)])
                at = step_at(at, place)
            self.assertEqual(places_of(at), [])
            self.assertEqual(told, at)

    def test_200_steps_and_201(self):
        for many in (3, 4, 197, 198, 199, 200):
            self.assertLessEqual(parts_of(of_steps(many)), 400)
            told, log = run(of_steps(many))
            self.assertEqual(len(log), many)
            self.assertEqual(step_places(told), [])
        for many in (201, 202, 203):
            self.assertLessEqual(parts_of(of_steps(many)), 400)
            with self.assertRaises(TooLong):
                run(of_steps(many))

    def test_by_other_picks_there_may_be_fewer_steps(self):
        # Where what is given is gone on with ahead, it is not gone on with once for each of its copies.
        told, log = run(of_steps(203), [1, 1, 1])
        self.assertLessEqual(len(log), 200)
        self.assertEqual(step_places(told), [])

    def test_1500_parts_and_1501_behind_a_step(self):
        for parts in (1499, 1500, 1501, 1502):
            program = growing_to(parts)
            self.assertLessEqual(parts_of(program), 400)
            kind_of(ROW, program)
            self.assertEqual(parts_of(stepped(program, [])), parts)
            if parts <= 1500:
                told, log = run(program)
                self.assertEqual((parts_of(told), log), (parts, [[]]))
            else:
                with self.assertRaises(TooLong):
                    run(program)

    def test_too_many_parts_on_the_way_alone(self):
        program = first(pair(P, growing_to(1501)))
        self.assertEqual(run(program), (P, [[]]))
        with self.assertRaises(TooLong):
            run(program, [1])
        # The whole program counts, not what became of the part alone.
        self.assertEqual(len(run(growing_to(1498))[1]), 1)
        with self.assertRaises(TooLong):
            run(pair(P, growing_to(1499)))

    def test_very_many_parts(self):
        program = give(take("y", A, crown(98, Y)), grove(50))
        with self.assertRaises(TooLong):
            run(program)

    def test_100_deep_and_101_behind_a_step(self):
        for deep in (99, 100, 101, 102):
            program = give(take("y", A, tower(deep - 50, Y)), fed(50, P))
            self.assertEqual(stepped(program, []), tower(deep - 50, fed(50, P)))
            if deep <= 100:
                self.assertEqual(run(program), (tower(deep - 50, fed(50, P)), [[]]))
            else:
                with self.assertRaises(TooLong):
                    run(program)

    def test_what_is_handed_in_is_not_behind_a_step(self):
        self.assertEqual(run(tower(80, P)), (tower(80, P), []))

    def test_steps_that_grow(self):
        program = SAME
        for _ in range(12):
            program = give(take("y", to(A, A), take("z", A, give(Y, give(Y, Z)))), program)
        with self.assertRaises(TooLong):
            run(program)

    def test_told_lists_are_the_askers_own(self):
        program = pair(STEP, pair(STEP, STEP))
        picks = [1, 0]
        told, log = run(program, picks)
        again = [list(place) for place in log]
        for place in log:
            place.append(7)
        log.append([])
        self.assertEqual(picks, [1, 0])
        self.assertEqual(run(program, picks), (told, again))

    def test_kinds_of_several_sorts(self):
        swap = read_program("( y : ( a * b ) => { y .2 , y .1 } )")
        self.assertEqual(run(give(swap, Q)), (pair(second(Q), first(Q)), [[]]))
        self.assertEqual(run(give(swap, pair(P, give(F, P)))), (pair(give(F, P), P), [[], [0], [1]]))
        self.assertEqual(run(give(swap, pair(P, give(F, P))), [2]), (pair(give(F, P), P), [[], [0], [1]]))
        self.assertEqual(run(give(take("y", ONE, Y), THING))[0], THING)


class AllComeToTheSame(unittest.TestCase):
    def test_by_several_rows_of_picks_the_same_program(self):
        random = Random(15)
        for program in SMALL:
            told, log = run(program)
            for _ in range(4):
                picks = [random.randint(0, 10 ** 18) for _ in range(random.randint(1, 5))]
                self.assertEqual(run(program, picks)[0], told)

    def test_the_kind_stays(self):
        random = Random(16)
        for program in SMALL:
            kind = kind_of(ROW, program)
            at = program
            while step_places(at):
                at = stepped(at, random.choice(step_places(at)))
                self.assertEqual(kind_of(ROW, at), kind)

    def test_the_kind_stays_also_beyond_the_bounds_of_kinds(self):
        program = first(pair(take("y", read_kind("( ( a * b ) * a )"), crown(8, Y)), P))
        self.assertEqual(kind_of(ROW, stepped(program, [])), kind_of(ROW, program))

    def test_parts_at_the_places(self):
        for program in SMALL:
            told, log = run(program)
            at = tidied(program)
            for place in log:
                self.assertIsNotNone(part_at(at, place))
                at = stepped(at, place)
            self.assertEqual(at, told)


if __name__ == "__main__":
    unittest.main()
