"""Makings [21]."""

import unittest

from plainly import is_plain_long, longs_to, random_programs, random_rows
from samples import A, B, ONE, THING, both, first, give, name, pair, second, take, to

from kindfill.errors import NoLong, NoMaking
from kindfill.books import book_of
from kindfill.fitting import kind_of
from kindfill.kindtexts import read_kind
from kindfill.longs import is_long, long_form, size_of
from kindfill.makings import made_by, making_of
from kindfill.programs import deep_of, is_program, parts_of
from kindfill.progtexts import read_program
from kindfill.steps import run

P, Q, R, F, G = [name(text) for text in "pqrfg"]
X0, X1, X2 = name("x0"), name("x1"), name("x2")


class There(unittest.TestCase):
    def both_ways(self, row, kind, program, making):
        self.assertEqual(making_of(row, kind, program), making)
        self.assertEqual(made_by(row, kind, making), program)

    def test_without_names(self):
        self.both_ways([], ONE, THING, [])
        self.both_ways([], both(ONE, to(A, ONE)), pair(THING, take("x0", A, THING)), [])
        self.both_ways([("p", A)], ONE, THING, [])

    def test_one_name(self):
        self.both_ways([("p", A)], A, P, [(0, 0, 0)])
        self.both_ways([], to(A, A), take("x0", A, X0), [(0, 0, 0)])
        self.both_ways([("q", both(B, A))], A, second(Q), [(0, 0, 0)])
        self.both_ways([("q", both(A, A))], A, second(Q), [(0, 1, 0)])

    def test_for_each_end(self):
        row = [("p", A), ("q", both(B, A))]
        self.both_ways(row, both(A, both(B, A)), pair(second(Q), pair(first(Q), P)), [(0, 0, 0), (1, 0, 0), (0, 1, 0)])
        self.both_ways([], both(to(A, A), to(B, B)), pair(take("x0", A, X0), take("x0", B, X0)), [(0, 0, 0), (1, 0, 0)])

    def test_a_row_and_behind_it_its_rooms(self):
        row = [("f", to(A, B, A)), ("p", A), ("g", to(A, B))]
        # Rooms: 0 of a, 1 of b. Rows: of a by f, and p; of b by g.
        self.both_ways(row, A, give(F, P, give(G, give(F, P, give(G, P)))),
                       [(0, 0, 0), (0, 1, 0), (1, 0, 0), (0, 0, 0), (0, 1, 0), (1, 0, 0), (0, 1, 0)])
        self.both_ways(row, A, give(F, give(F, P, give(G, P)), give(G, P)),
                       [(0, 0, 0), (0, 0, 0), (0, 1, 0), (1, 0, 0), (0, 1, 0), (1, 0, 0), (0, 1, 0)])

    def test_which_of_the_names_of_one_kind(self):
        row = [("p", A), ("f", to(A, A)), ("q", A), ("g", to(A, A))]
        for which, text in enumerate(["p", "q"]):
            self.both_ways(row, A, name(text), [(0, 1, which)])
        for which, text in enumerate(["p", "q", "x0", "x2"]):
            self.both_ways(row, to(A, B, A, A), take("x0", A, take("x1", B, take("x2", A, name(text)))), [(0, 1, which)])
        for which, text in enumerate(["f", "g"]):
            self.both_ways(row, A, give(name(text), Q), [(0, 0, which), (0, 1, 1)])
        # Given ones first, then taken ones, the outermost first.
        row = [("f", to(to(A, A), A)), ("p", A)]
        for which, text in enumerate(["p", "x0", "x1", "x2"]):
            program = give(F, take("x1", A, give(F, take("x2", A, name(text)))))
            self.both_ways(row, to(A, A), take("x0", A, program), [(0, 0, 0), (0, 0, 0), (0, 1, which)])
        # A name that is taken elsewhere is not there.
        row = [("f", to(to(A, A), A, A)), ("p", A)]
        self.both_ways(row, A, give(F, take("x0", A, X0), give(F, take("x0", A, P), P)),
                       [(0, 0, 0), (0, 1, 1), (0, 0, 0), (0, 1, 0), (0, 1, 0)])

    def test_all_small_programs(self):
        for row, kind in random_rows(21, 250):
            seen = []
            for program in longs_to(row, kind, 3)[:60]:
                making = making_of(row, kind, program)
                self.assertEqual(len(making), size_of(program))
                self.assertEqual(made_by(row, kind, making), program)
                self.assertNotIn(making, seen)
                seen.append(making)

    def test_all_makings_of_few_tuples(self):
        for row, kind in random_rows(210, 40, 7):
            makings = every_making(row, kind, 3)
            told = [made_by(row, kind, making) for making in makings]
            self.assertTrue(all(is_plain_long(row, kind, program) for program in told))
            self.assertEqual(sorted(told), sorted(longs_to(row, kind, 3)))

    def test_no_long(self):
        row = [("p", A), ("f", to(A, B)), ("q", both(A, B))]
        for kind, program in [(A, F), (B, P), (A, name("no")), (A, first(pair(P, P))), (ONE, P), (both(A, B), Q), (A, THING),
                              (to(A, B), F), (to(A, B), take("y", A, P)), (to(A, B), take("x1", A, give(F, P)))]:
            with self.assertRaises(NoLong):
                making_of(row, kind, program)
        for program in random_programs(211, 200, row + [("g", to(to(A, B), A))]):
            kind = kind_of(row + [("g", to(to(A, B), A))], program)
            if not is_long(row, kind, program):
                with self.assertRaises(NoLong):
                    making_of(row, kind, program)

    def test_nothing_handed_in_is_changed_and_lists_are_the_askers_own(self):
        row = [("f", to(A, A)), ("p", A)]
        making = [(0, 0, 0), (0, 1, 0)]
        made_by(row, A, making)
        self.assertEqual(making, [(0, 0, 0), (0, 1, 0)])
        told = making_of(row, A, give(F, P))
        told.append(7)
        self.assertEqual(making_of(row, A, give(F, P)), making)
        self.assertEqual(row, [("f", to(A, A)), ("p", A)])


def every_making(row, kind, most):
    """All makings of at most so many tuples, by the book."""
    starts, rooms, rows = book_of(row, kind)
    told = []
    todo = [([], starts)]
    while todo:
        making, due = todo.pop()
        if not due:
            told.append(making)
        elif len(making) + len(due) <= most:
            for number, (text, way, inner) in enumerate(rows[due[0]]):
                which = 0
                while True:
                    each = making + [(due[0], number, which)]
                    # The names that are there are found out by the refusals: behind the last one comes none.
                    if refused_at(row, kind, each) != len(each) and refused_at(row, kind, each) is not None:
                        break
                    todo.append((each, inner + due[1:]))
                    which += 1
    return told


def refused_at(row, kind, making):
    try:
        made_by(row, kind, making)
    except NoMaking as refusal:
        return refusal.at
    return None


class NoMakings(unittest.TestCase):
    ROW = [("f", to(A, B, A)), ("p", A), ("g", to(A, B)), ("r", A)]
    MAKING = [(0, 0, 0), (0, 0, 0), (0, 1, 0), (1, 0, 0), (0, 1, 1), (1, 0, 0), (0, 1, 0)]

    def test_each_way_to_be_none(self):
        self.assertIsNone(refused_at(self.ROW, A, self.MAKING))
        for at, told in enumerate(self.MAKING):
            room, number, which = told
            for other in [(1 - room, number, which), (2, number, which), (-1, number, which), (10 ** 20, number, which),
                          (room - 2, number, which), (room, 2, which), (room, -1, which), (room, number - 3, which),
                          (room, 10 ** 20, which), (room, number, 2), (room, number, -1), (room, number, which - 2),
                          (room, number, 10 ** 20), (-1, -1, -1), (7, 7, 7)]:
                making = self.MAKING[:at] + [other] + self.MAKING[at + 1:]
                self.assertEqual(refused_at(self.ROW, A, making), at, other)
                self.assertEqual(refused_at(self.ROW, A, making[:at + 1]), at)

    def test_too_few(self):
        for many in range(len(self.MAKING)):
            self.assertEqual(refused_at(self.ROW, A, self.MAKING[:many]), many)

    def test_too_many(self):
        for more in ([(0, 0, 0)], [(9, 9, 9)], [(0, 1, 0)] * 5):
            self.assertEqual(refused_at(self.ROW, A, self.MAKING + more), 7)
        self.assertEqual(refused_at([], ONE, [(0, 0, 0)]), 0)
        self.assertEqual(refused_at([("p", A)], A, [(0, 0, 0), (0, 0, 0)]), 1)

    def test_the_empty_list(self):
        self.assertEqual(refused_at(self.ROW, A, []), 0)
        self.assertEqual(refused_at([], A, []), 0)
        self.assertEqual(refused_at([], to(A, A), []), 0)
        self.assertIsNone(refused_at([], ONE, []))

    def test_rooms_without_rows(self):
        self.assertEqual(refused_at([], A, [(0, 0, 0)]), 0)
        self.assertEqual(refused_at([("f", to(A, B))], B, [(0, 0, 0), (1, 0, 0)]), 1)

    def test_a_name_of_another_kind_or_not_there(self):
        row = [("f", to(to(A, A), A))]
        self.assertEqual(refused_at(row, A, [(0, 0, 0), (1, 1, 0)]), None)
        self.assertEqual(refused_at(row, A, [(0, 0, 0), (1, 1, 1)]), 1)
        self.assertEqual(refused_at(row, A, [(0, 0, 1), (1, 1, 0)]), 0)
        self.assertEqual(refused_at(row, A, [(0, 0, 0), (1, 0, 0), (1, 1, 1)]), None)
        self.assertEqual(refused_at(row, A, [(0, 0, 0), (1, 0, 0), (1, 1, 2)]), 2)

    def test_the_first_one_that_cannot_stand(self):
        self.assertEqual(refused_at(self.ROW, A, [(0, 0, 0), (5, 0, 0), (5, 0, 0)]), 1)


class Large(unittest.TestCase):
    def test_400_tuples(self):
        row = [("f", to(A, A)), ("p", A)]
        making = [(0, 0, 0)] * 399 + [(0, 1, 0)]
        program = made_by(row, A, making)
        self.assertEqual((parts_of(program), deep_of(program)), (799, 399))
        self.assertIs(is_program(program), False)
        self.assertEqual(making_of(row, A, program), making)
        self.assertIs(is_long(row, A, program), True)
        self.assertEqual(size_of(program), 400)

    def test_more_than_1000_deep(self):
        # Each tuple but the last one has ten takes behind it: so most of their names are beyond the hundredth.
        kind = to(*[B] * 10, A)
        row = [("f", to(kind, A)), ("p", A)]
        making = [(0, 0, 0)] + [(1, 0, 0)] * 398 + [(1, 1, 0)]
        program = made_by(row, A, making)
        self.assertGreater(deep_of(program), 4000)
        self.assertEqual(making_of(row, A, program), making)
        self.assertIs(is_long(row, A, program), True)
        self.assertIs(is_long(row[:1], A, program), False)
        self.assertEqual(run(program)[1], [])

    def test_which_far_out(self):
        row = [("f", to(to(A, A, A), A))]
        for which in (0, 1, 99, 100, 101, 700, 797):
            making = [(0, 0, 0)] + [(1, 0, 0)] * 398 + [(1, 1, which)]
            program = made_by(row, A, making)
            self.assertEqual(making_of(row, A, program), making)
            while program[0] != "name":
                program = program[2] if program[0] == "give" else program[3]
            self.assertEqual(program, name(f"x{which}"))
        self.assertEqual(refused_at(row, A, [(0, 0, 0)] + [(1, 0, 0)] * 398 + [(1, 1, 798)]), 399)

    def test_forms(self):
        row = [("f", read_kind("( ( a -> b ) -> a )")), ("g", read_kind("( a -> b )"))]
        program = long_form(row, read_program("( f g )"))
        self.assertEqual(making_of(row, A, program), [(0, 0, 0), (1, 0, 0), (2, 1, 0)])


if __name__ == "__main__":
    unittest.main()
