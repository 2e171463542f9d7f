"""Which kind a program has [10], and programs tidied [12]."""

import unittest

from samples import (A, B, C, ONE, THING, both, bush, first, give, halves, name, pair, programs_of_parts, second, take,
                     to)

from kindfill.errors import NoFit
from kindfill.fitting import kind_of, tidied
from kindfill.kinds import depth_of, is_kind, leaves_of
from kindfill.programs import is_program

ROW = [("p", A), ("q", both(A, B)), ("f", to(A, B)), ("g", to(both(A, B), A, C))]
P, Q, F, G, NONE = name("p"), name("q"), name("f"), name("g"), name("nobody")


class KindOf(unittest.TestCase):
    def refused_at(self, row, program, place):
        with self.assertRaises(NoFit) as caught:
            kind_of(row, program)
        self.assertEqual(caught.exception.place, place)

    def test_each_form(self):
        for program, kind in [
            (P, A), (Q, both(A, B)), (F, to(A, B)), (THING, ONE), (take("y", C, name("y")), to(C, C)),
            (take("y", C, P), to(C, A)), (take("x0", both(A, B), second(name("x0"))), to(both(A, B), B)),
            (give(F, P), B), (give(G, Q), to(A, C)), (give(G, Q, P), C), (pair(P, THING), both(A, ONE)),
            (first(Q), A), (second(Q), B), (second(pair(P, pair(F, Q))), both(to(A, B), both(A, B))),
            (give(take("y", A, pair(name("y"), P)), first(Q)), both(A, A)), (give(F, first(Q)), B),
            (take("y", A, take("z", B, pair(name("y"), name("z")))), to(A, B, both(A, B))),
        ]:
            self.assertEqual(kind_of(ROW, program), kind)

    def test_without_given_names(self):
        self.assertEqual(kind_of([], THING), ONE)
        self.assertEqual(kind_of([], take("y", A, name("y"))), to(A, A))
        self.refused_at([], P, [])

    def test_the_innermost_take_hides_what_stands_round_it(self):
        self.assertEqual(kind_of(ROW, take("p", B, P)), to(B, B))
        self.assertEqual(kind_of(ROW, take("p", B, take("p", C, P))), to(B, C, C))
        self.assertEqual(kind_of([], take("y", B, take("y", C, name("y")))), to(B, C, C))
        inner = take("y", C, name("y"))
        self.assertEqual(kind_of([], take("y", B, pair(inner, name("y")))), to(B, both(to(C, C), B)))
        self.assertEqual(kind_of(ROW, pair(take("p", B, P), P)), both(to(B, B), A))
        self.assertEqual(kind_of(ROW, pair(P, take("p", B, P))), both(A, to(B, B)))
        self.assertEqual(kind_of(ROW, give(take("p", A, give(F, P)), P)), B)

    def test_a_name_is_not_taken_outside_its_take(self):
        self.refused_at([], pair(take("y", A, name("y")), name("y")), [1])
        self.refused_at([], pair(name("y"), take("y", A, name("y"))), [0])
        self.refused_at([], give(take("y", A, name("y")), name("y")), [1])

    def test_each_way_to_have_none(self):
        for program in [
            NONE, name("x0"), give(P, P), give(F, Q), give(F, F), give(Q, P), give(THING, THING), give(F, THING),
            give(take("y", A, P), THING), first(P), first(F), first(THING), second(P), second(F), second(THING),
            give(G, pair(P, P)),
        ]:
            self.refused_at(ROW, program, [])
            self.refused_at(ROW, first(program), [0])
            self.refused_at(ROW, take("y", A, program), [0])
            self.refused_at(ROW, take("y", A, pair(P, second(program))), [0, 1, 0])
            self.refused_at(ROW, give(program, P), [0])
            self.refused_at(ROW, give(F, program), [1])

    def test_the_first_part_that_has_none(self):
        self.refused_at(ROW, pair(NONE, first(P)), [0])
        self.refused_at(ROW, pair(first(P), NONE), [0])
        self.refused_at(ROW, pair(P, first(P)), [1])
        self.refused_at(ROW, give(P, NONE), [1])
        self.refused_at(ROW, give(give(P, P), NONE), [0])
        self.refused_at(ROW, give(give(F, NONE), NONE), [0, 1])
        self.refused_at(ROW, first(pair(second(F), NONE)), [0, 0])
        self.refused_at(ROW, give(first(give(F, P)), give(Q, Q)), [0])
        self.refused_at(ROW, pair(pair(P, pair(P, first(NONE))), NONE), [0, 1, 1, 0])
        self.refused_at(ROW, halves(80, NONE), [0] * 80)
        self.refused_at(ROW, halves(80, Q), [0] * 78)

    def test_a_kind_beyond_the_bounds_is_told(self):
        program = take("y", bush(20), pair(name("y"), name("y")))
        kind = to(bush(20), both(bush(20), bush(20)))
        self.assertEqual(kind_of([], program), kind)
        self.assertFalse(is_kind(kind))
        self.assertEqual(kind_of([], first(pair(program, THING))), kind)
        deep = P
        for _ in range(80):
            deep = pair(deep, THING)
        self.assertEqual(depth_of(kind_of(ROW, deep)), 80)
        wide = name("w")
        for _ in range(7):
            wide = pair(wide, wide)
        self.assertEqual(leaves_of(kind_of([("w", bush(24))], wide)), 128 * 24)

    def test_far_beyond_the_bounds(self):
        program = THING
        for _ in range(3000):
            program = give(take("y", ONE, name("y")), program)
        self.assertEqual(kind_of([], program), ONE)

    def test_all_small_programs(self):
        row = [("f", to(A, A)), ("p", A)]
        for parts in (1, 2, 3, 4, 5):
            for program in programs_of_parts(parts, [F, P, THING], [("p", to(A, A)), ("x0", A)]):
                kind, place = plain_kind(dict(row), program, [])
                if kind is None:
                    self.refused_at(row, program, place)
                else:
                    self.assertEqual(kind_of(row, program), kind)

    def test_nothing_handed_in_is_changed(self):
        row = list(ROW)
        kind_of(row, take("p", B, P))
        self.assertEqual(row, ROW)
        with self.assertRaises(NoFit):
            kind_of(row, pair(P, NONE))
        self.assertEqual(row, ROW)

    def test_a_told_place_is_new(self):
        program = pair(P, NONE)
        with self.assertRaises(NoFit) as caught:
            kind_of(ROW, program)
        caught.exception.place.append(7)
        self.refused_at(ROW, program, [1])


def plain_kind(known, program, place):
    """The tuple (kind, None), or (None, place), by the words of the document."""
    word = program[0]
    if word == "thing":
        return ONE, None
    if word == "name":
        kind = known.get(program[1])
        return kind, None if kind else place
    if word == "take":
        kind, at = plain_kind({**known, program[1]: program[2]}, program[3], place + [0])
        return (to(program[2], kind), None) if kind else (None, at)
    kinds = []
    for step, inner in enumerate(program[1:]):
        kind, at = plain_kind(known, inner, place + [step])
        if kind is None:
            return None, at
        kinds.append(kind)
    if word == "pair":
        return both(*kinds), None
    if word == "give" and kinds[0][:2] == ("to", kinds[1]):
        return kinds[0][2], None
    if word != "give" and kinds[0][0] == "both":
        return kinds[0][1 if word == "first" else 2], None
    return None, place


class Tidied(unittest.TestCase):
    def test_each_form(self):
        for program, told in [
            (P, P), (THING, THING), (give(F, P), give(F, P)), (pair(P, THING), pair(P, THING)), (first(Q), first(Q)),
            (second(Q), second(Q)), (take("y", A, name("y")), take("x0", A, name("x0"))),
            (take("y", A, P), take("x0", A, P)), (take("y", A, THING), take("x0", A, THING)),
            (take("x7", A, name("x7")), take("x0", A, name("x0"))),
        ]:
            self.assertEqual(tidied(program), told)

    def test_takes_are_counted_in_the_whole_program(self):
        y, z, x0, x1 = name("y"), name("z"), name("x0"), name("x1")
        self.assertEqual(tidied(take("y", A, take("z", B, pair(y, z)))), take("x0", A, take("x1", B, pair(x0, x1))))
        self.assertEqual(tidied(pair(take("y", A, y), take("z", B, z))), pair(take("x0", A, x0), take("x0", B, x0)))
        self.assertEqual(tidied(take("y", A, pair(take("z", B, pair(y, z)), take("z", C, z)))),
                         take("x0", A, pair(take("x1", B, pair(x0, x1)), take("x1", C, x1))))
        self.assertEqual(tidied(give(take("y", ONE, take("z", A, z)), THING)),
                         give(take("x0", ONE, take("x1", A, x1)), THING))
        self.assertEqual(tidied(take("y", A, give(take("z", A, z), y))), take("x0", A, give(take("x1", A, x1), x0)))

    def test_names_that_cross(self):
        x0, x1 = name("x0"), name("x1")
        self.assertEqual(tidied(take("x1", A, take("x0", B, pair(x1, x0)))), take("x0", A, take("x1", B, pair(x0, x1))))
        self.assertEqual(tidied(take("x5", A, take("x0", B, name("x5")))), take("x0", A, take("x1", B, x0)))

    def test_names_that_hide(self):
        y, x0, x1 = name("y"), name("x0"), name("x1")
        self.assertEqual(tidied(take("y", A, take("y", B, y))), take("x0", A, take("x1", B, x1)))
        self.assertEqual(tidied(take("y", A, pair(take("y", B, y), y))), take("x0", A, pair(take("x1", B, x1), x0)))
        self.assertEqual(tidied(take("y", A, pair(y, take("y", B, y)))), take("x0", A, pair(x0, take("x1", B, x1))))

    def test_names_given_from_outside_stay(self):
        self.assertEqual(tidied(pair(take("p", B, P), P)), pair(take("x0", B, name("x0")), P))
        self.assertEqual(tidied(give(take("p", A, pair(P, Q)), P)), give(take("x0", A, pair(name("x0"), Q)), P))
        self.assertEqual(tidied(take("y", A, give(G, Q, name("y")))), take("x0", A, give(G, Q, name("x0"))))

    def test_many_takes(self):
        program, told = name("y"), name("x79")
        for number in range(79, -1, -1):
            program, told = take("y", ONE, program), take("x" + str(number), ONE, told)
        self.assertEqual(tidied(program), told)
        self.assertTrue(is_program(told))

    def test_far_beyond_the_bounds(self):
        program = name("y")
        for _ in range(3000):
            program = take("y", ONE, program)
        told = tidied(program)
        for number in range(3000):
            self.assertEqual(told[:3], ("take", "x" + str(number), ONE))
            told = told[3]
        self.assertEqual(told, name("x2999"))

    def test_all_small_programs(self):
        for parts in (1, 2, 3, 4, 5):
            for program in programs_of_parts(parts, [P, name("x0")], [("p", A), ("x0", A)]):
                if parts > 4 and program[0] != "take":
                    continue
                if "x0" in outside(program, ()):
                    continue
                told = tidied(program)
                self.assertEqual(told, plain_tidied(program, []))
                self.assertEqual(tidied(told), told)


def outside(program, taken):
    """The names that no take takes."""
    if program[0] == "name":
        return {program[1]} - set(taken)
    if program[0] == "take":
        return outside(program[3], (*taken, program[1]))
    return set().union(*[outside(inner, taken) for inner in program[1:]])


def plain_tidied(program, taken):
    """A program tidied, by the words of the document; taken: the names of the takes round it."""
    if program[0] == "name":
        numbers = [number for number, text in enumerate(taken) if text == program[1]]
        return name("x" + str(numbers[-1])) if numbers else program
    if program[0] == "take":
        return take("x" + str(len(taken)), program[2], plain_tidied(program[3], taken + [program[1]]))
    return (program[0], *[plain_tidied(inner, taken) for inner in program[1:]])


if __name__ == "__main__":
    unittest.main()
