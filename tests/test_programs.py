"""Programs, their parts, depths and places [9]."""

import unittest

from samples import (A, B, ONE, THING, Rude, bush, chain, first, give, halves, heap, name, pair,
                     programs_of_parts, second, shared, take, to)

from kindfill.programs import deep_of, is_program, part_at, parts_of

P = name("p")
NO_PROGRAMS = [
    None, True, False, 0, 1, "", "p", "thing", b"thing", [], {}, (), set(), Rude(), object(), is_program,
    ("name",), ("name", "p", "q"), ("name", ""), ("name", "abcdefg"), ("name", "P"), ("name", "x07"), ("name", "x100"),
    ("name", "p\n"), ("name", None), ("name", True), ("name", 0), ("name", ["p"]), ("name", P), ("name", b"p"),
    ["name", "p"], ["thing"], ("thing", None), ("thing", P), ("thing", ()), ("Thing",), (1,), (None,), (True,), ((),),
    (("thing",),), (["thing"],), (b"thing",), (Rude(),), (Rude(), P, P), ([], P, P), ({}, P, P),
    ("one",), ("mark", "a"), ("to", P, P), ("both", P, P), ("gap", A), ("third", P), ("", P), (None, P), (0, P, P),
    ("take",), ("take", "p"), ("take", "p", A), ("take", "p", P), ("take", A, P), ("take", "p", A, P, P),
    ("take", "", A, P), ("take", "abcdefg", A, P), ("take", "x07", A, P), ("take", "x100", A, P), ("take", None, A, P),
    ("take", True, A, P), ("take", 0, A, P), ("take", ["p"], A, P), ("take", P, A, P), ("take", A, "p", P),
    ("take", "p", None, P), ("take", "p", "a", P), ("take", "p", P, P), ("take", "p", ["one"], P),
    ("take", "p", True, P), ("take", "p", (), P), ("take", "p", ("mark", ""), P), ("take", "p", to(A, P), P),
    ("take", "p", bush(25), P), ("take", "p", chain(13), P), ("take", "p", shared("to", A, 60), P),
    ("give",), ("give", P), ("give", P, P, P), ("pair",), ("pair", P), ("pair", P, P, P), ["give", P, P],
    ["pair", P, P], ("first",), ("first", P, P), ("second",), ("second", P, P), ["first", P], ["second", P],
    ("first", "p"), ("give", "p", P), ("give", P, A), ("pair", P, ONE),
]


def within(thing):
    """Things that would be programs, if the thing were one."""
    return [take("p", A, thing), give(thing, P), give(P, thing), pair(thing, P), pair(P, thing), first(thing),
            second(thing), pair(first(P), take("x0", A, give(P, second(thing))))]


class IsProgram(unittest.TestCase):
    def test_each_form(self):
        for program in [P, name("x0"), name("x99"), name("abcdef"), THING, take("p", A, P), take("x7", ONE, THING),
                        give(P, P), pair(P, THING), first(P), second(THING), give(THING, THING)]:
            self.assertIs(is_program(program), True)
            for larger in within(program):
                self.assertIs(is_program(larger), True)

    def test_what_is_none_at_the_top_and_within(self):
        for thing in NO_PROGRAMS:
            self.assertIs(is_program(thing), False)
            for larger in within(thing):
                self.assertIs(is_program(larger), False)

    def test_kinds_at_the_bounds(self):
        self.assertIs(is_program(take("p", bush(24), P)), True)
        self.assertIs(is_program(take("p", chain(12), P)), True)

    def test_400_parts_and_401(self):
        for parts, told in ((399, True), (400, True), (401, False), (402, False), (5000, False)):
            self.assertEqual(parts_of(heap(parts)), parts)
            self.assertIs(is_program(heap(parts)), told)

    def test_80_deep_and_81(self):
        for depth, told in ((79, True), (80, True), (81, False), (50000, False)):
            self.assertIs(is_program(halves(depth)), told)
        takes = THING
        for _ in range(80):
            takes = take("p", A, takes)
        self.assertIs(is_program(takes), True)
        self.assertIs(is_program(take("p", A, takes)), False)
        self.assertIs(is_program(give(P, halves(79))), True)
        self.assertIs(is_program(give(P, halves(80))), False)
        self.assertIs(is_program(pair(halves(80), P)), False)

    def test_shared_tuples(self):
        self.assertIs(is_program(shared("pair", P, 7)), True)
        self.assertIs(is_program(shared("pair", P, 8)), False)
        self.assertIs(is_program(shared("give", P, 70)), False)

    def test_a_tuple_that_holds_itself(self):
        held = []
        thing = ("first", held)
        held.append(thing)
        self.assertIs(is_program(thing), False)


class PartsAndDepth(unittest.TestCase):
    def test_each_form(self):
        for program, parts, depth in [(P, 1, 0), (THING, 1, 0), (take("p", to(A, B), P), 2, 1), (first(P), 2, 1),
                                      (second(P), 2, 1), (give(P, P), 3, 1), (pair(P, P), 3, 1),
                                      (give(P, P, P), 5, 2), (pair(first(P), second(first(P))), 6, 3),
                                      (pair(second(first(P)), THING), 5, 3), (give(take("p", A, P), first(P)), 5, 2)]:
            self.assertEqual(parts_of(program), parts)
            self.assertEqual(deep_of(program), depth)

    def test_beyond_the_bounds(self):
        for depth in (80, 81, 100, 3000):
            self.assertEqual(deep_of(halves(depth)), depth)
            self.assertEqual(parts_of(halves(depth)), depth + 1)
        self.assertEqual(parts_of(heap(1500)), 1500)


class PartAt(unittest.TestCase):
    program = take("f", to(A, B), pair(give(name("f"), P), first(second(THING))))

    def test_each_part(self):
        for place, part in [([], self.program), ([0], self.program[3]), ([0, 0], give(name("f"), P)),
                            ([0, 0, 0], name("f")), ([0, 0, 1], P), ([0, 1], first(second(THING))),
                            ([0, 1, 0], second(THING)), ([0, 1, 0, 0], THING)]:
            self.assertEqual(part_at(self.program, place), part)

    def test_none_where_there_is_no_part(self):
        for place in ([1], [0, 2], [0, -1], [-1], [2], [10 ** 30], [-10 ** 30], [0, 0, 0, 0], [0, 0, 1, 1], [0, 1, 1],
                      [0, 1, 0, 1], [0, 1, 0, 0, 0], [0, 0, 0, 0, 0, 0, 0], [0] * 1000, [True], [False]):
            self.assertIsNone(part_at(self.program, place), place)

    def test_below_each_form(self):
        for program, many in [(P, 0), (THING, 0), (take("p", A, P), 1), (first(P), 1), (second(P), 1), (give(P, P), 2),
                              (pair(P, P), 2)]:
            for step in (-2, -1, 0, 1, 2, 3):
                self.assertEqual(part_at(program, [step]), P if 0 <= step < many else None)

    def test_deep_down(self):
        self.assertEqual(part_at(halves(3000), [0] * 3000), P)
        self.assertIsNone(part_at(halves(3000), [0] * 3001))

    def test_the_place_is_not_changed(self):
        for place in ([0, 1, 0], [0, 1, 1]):
            handed = list(place)
            part_at(self.program, handed)
            self.assertEqual(handed, place)

    def test_all_small_programs(self):
        for parts in (1, 2, 3, 4):
            for program in programs_of_parts(parts, [P, THING], [("p", A)]):
                self.assertIs(is_program(program), True)
                self.assertEqual(parts_of(program), parts)
                self.assertEqual(len(placed(program)), parts)
                self.assertEqual(deep_of(program), max(len(place) for place, _ in placed(program)))
                for place, part in placed(program):
                    self.assertEqual(part_at(program, place), part)


def placed(program):
    """All places of parts, and the parts."""
    told = [([], program)]
    if program[0] in ("take", "first", "second"):
        told += [([0] + place, part) for place, part in placed(program[-1])]
    if program[0] in ("give", "pair"):
        for step in (0, 1):
            told += [([step] + place, part) for place, part in placed(program[step + 1])]
    return told


if __name__ == "__main__":
    unittest.main()
