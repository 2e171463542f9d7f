"""Rings: when a program can be made longer without end [25], and how it is [26]."""

import unittest

from plainly import at_place, is_plain_long, longs_to, names_in, put_at, random_rows, tidy
from samples import A, B, C, ONE, THING, Rude, both, fed, first, give, grove, name, pair, second, shared, take, to

from kindfill.errors import TooLong
from kindfill.fitting import kind_of
from kindfill.makings import made_by
from kindfill.programs import deep_of, parts_of
from kindfill.rings import gone_round, is_ring

P, F, G, X0, X1, X2 = [name(text) for text in ["p", "f", "g", "x0", "x1", "x2"]]
ROW = [("f", to(A, A)), ("p", A)]
THINGS = [None, True, False, 0, 1, "", "p", b"p", [], {}, (), set(), Rude(), object(), is_ring, ("name",), ("name", []),
          ("name", Rude()), ("give", P), [], ["name", "p"], (Rude(), P), ((), ()), (None,), ("gap", A)]
NO_PLACES = [None, True, False, 0, 1, "", "1", (), (1,), {}, set(), Rude(), [None], ["1"], [[1]], [1, None], [Rude()], [(1,)]]


class IsRing(unittest.TestCase):
    def ring(self, row, kind, program, above, below):
        self.assertIs(is_ring(row, kind, program, above, below), True)

    def no_ring(self, row, kind, program, above, below):
        self.assertIs(is_ring(row, kind, program, above, below), False)

    def test_rings(self):
        self.ring(ROW, A, give(F, P), [], [1])
        self.ring(ROW, A, give(F, give(F, P)), [], [1])
        self.ring(ROW, A, give(F, give(F, P)), [1], [1, 1])
        self.ring(ROW, A, give(F, give(F, P)), [], [1, 1])
        self.ring(ROW, both(ONE, A), pair(THING, give(F, P)), [1], [1, 1])
        self.ring(ROW, to(B, A), take("x0", B, give(F, P)), [0], [0, 1])
        row = [("g", to(to(A, B), A)), ("f", to(A, B))]
        self.ring(row, A, give(G, take("x0", A, give(F, X0))), [], [1, 0, 1])
        self.ring(row, B, give(F, give(G, take("x0", A, give(F, X0)))), [], [1, 1, 0])
        self.ring(row, B, give(F, give(G, take("x0", A, give(F, X0)))), [1], [1, 1, 0, 1])
        row = [("m", to(both(A, B), both(C, to(ONE, A)))), ("p", A), ("r", B)]
        program = give(second(give(name("m"), pair(P, name("r")))), THING)
        self.ring(row, A, program, [], [0, 0, 1, 0])

    def test_above_no_beginning_of_below(self):
        program = pair(give(F, give(F, P)), give(F, P))
        kind = both(A, A)
        self.ring(ROW, kind, program, [0], [0, 1])
        for above, below in [([0], [1]), ([1], [0, 1]), ([0], [1, 1]), ([1, 1], [1]), ([0, 1], [0]), ([0, 1], [1, 1]), ([0, 1, 1], [0, 1])]:
            self.no_ring(ROW, kind, program, above, below)

    def test_above_as_long_as_below(self):
        for place in ([], [1], [1, 1]):
            self.no_ring(ROW, A, give(F, give(F, P)), place, place)

    def test_places_of_parts_of_other_marks(self):
        row = [("f", to(A, B)), ("g", to(B, A)), ("p", A)]
        program = give(F, give(G, give(F, P)))
        self.ring(row, B, program, [], [1, 1])
        self.ring(row, B, program, [1], [1, 1, 1])
        for above, below in [([], [1]), ([1], [1, 1]), ([], [1, 1, 1])]:
            self.no_ring(row, B, program, above, below)

    def test_places_of_no_marks_kind(self):
        row = [("f", to(A, A, A)), ("q", both(A, ONE)), ("k", to(ONE, A)), ("h", to(to(A, A), both(A, A), A))]
        program = give(F, first(name("q")), give(F, give(name("k"), THING), first(name("q"))))
        self.ring(row, A, program, [], [1])
        self.ring(row, A, program, [], [0, 1])
        for above, below in [([], [0]), ([], [0, 0]), ([], [0, 1, 0]), ([0], [0, 1]), ([1], [1, 0]), ([1, 0], [1, 0, 1]),
                             ([], [1, 0, 1, 1]), ([], [1, 0, 1, 0]), ([1, 0, 1], [1, 0, 1, 1]), ([0, 1], [0, 1, 0])]:
            self.no_ring(row, A, program, above, below)
        program = give(name("h"), take("x0", A, X0), pair(first(name("q")), first(name("q"))))
        self.ring(row, A, program, [], [0, 1, 0])
        self.ring(row, A, program, [], [1, 0])
        self.ring(row, A, program, [], [1, 1])
        for below in ([0], [1], [0, 1], [0, 0], [1, 0, 0]):
            self.no_ring(row, A, program, [], below)
        self.no_ring(row, both(A, A), pair(first(name("q")), first(name("q"))), [], [0])
        self.no_ring(row, to(A, A), take("x0", A, X0), [], [0])

    def test_places_where_there_is_no_part(self):
        for below in ([2], [-1], [1, 0], [1, 1], [0, 0], [1, 1, 1], [10 ** 20], [1] * 500):
            self.no_ring(ROW, A, give(F, P), [], below)
        self.no_ring(ROW, A, give(F, P), [2], [2, 1])

    def test_places_that_are_none(self):
        for thing in NO_PLACES:
            self.no_ring(ROW, A, give(F, P), thing, [1])
            self.no_ring(ROW, A, give(F, P), [], thing)
            self.no_ring(ROW, A, give(F, P), thing, thing)
        self.no_ring(ROW, A, give(F, P), (), (1,))

    def test_true_and_false_are_no_whole_numbers(self):
        row = [("f", to(A, A)), ("g", to(A, A, A)), ("p", A)]
        self.no_ring(ROW, A, give(F, P), [], [True])
        self.no_ring(ROW, A, give(F, give(F, P)), [], [1, True])
        self.no_ring(ROW, A, give(F, give(F, P)), [True], [1, 1])
        self.no_ring(ROW, A, give(F, give(F, P)), [True], [True, 1])
        self.no_ring(row, A, give(G, P, P), [], [False, 1])
        self.ring(row, A, give(G, P, P), [], [0, 1])

    def test_a_program_that_is_no_plain_long_one(self):
        for program in [give(take("x0", A, X0), P), give(F, first(pair(P, P))), give(F, name("no")), F, give(P, F),
                        give(F, THING), take("x0", A, give(F, X0))]:
            self.no_ring(ROW, A, program, [], [1])
        self.no_ring(ROW, B, give(F, P), [], [1])
        self.no_ring([("p", A)], A, give(F, P), [], [1])
        self.no_ring(ROW, to(A, A), take("x1", A, give(F, P)), [0], [0, 1])
        self.no_ring(ROW, to(A, A), take("x0", B, give(F, P)), [0], [0, 1])

    def test_things_of_any_sort(self):
        for thing in THINGS:
            self.no_ring(ROW, A, thing, [], [1])
            self.no_ring(ROW, A, give(F, thing), [], [1])
            self.no_ring(ROW, A, give(thing, P), [], [1])
            self.no_ring(ROW, both(A, A), pair(give(F, P), thing), [0], [0, 1])
            self.no_ring(ROW, both(ONE, A), pair(thing, give(F, P)), [1], [1, 1])
            self.no_ring(ROW, to(A, A), ("take", thing, A, give(F, P)), [0], [0, 1])
            self.no_ring(ROW, to(A, A), ("take", "x0", thing, give(F, P)), [0], [0, 1])
            self.no_ring(ROW, to(A, A), take("x0", A, thing), [0], [0, 1])
            self.no_ring(ROW, A, thing, thing, thing)
        for word in ("first", "give", "pair"):
            self.no_ring(ROW, A, shared(word, P, 60), [], [1])

    def test_all_places_of_small_programs(self):
        for row, kind in random_rows(25, 60, 9):
            for program in longs_to(row, kind, 4)[:12]:
                due = marks_at(row, program, kind)
                places = every_place(program)
                for above in places:
                    for below in places:
                        told = (below[:len(above)] == above and len(above) < len(below) and tuple(above) in due
                                and tuple(below) in due and due[tuple(above)] == due[tuple(below)])
                        self.assertIs(is_ring(row, kind, program, above, below), told)


def every_place(program, place=()):
    told = [list(place)]
    for step in range({"name": 0, "thing": 0, "give": 2, "pair": 2}.get(program[0], 1)):
        told += every_place(at_place(program, [step]), (*place, step))
    return told


def marks_at(row, program, kind):
    """To each place of a part of a mark's kind the mark."""
    told = {}
    for place in every_place(program):
        known = dict(row)
        part = program
        for step in place:
            if part[0] == "take":
                known[part[1]] = part[2]
            part = at_place(part, [step])
        kind = kind_of(list(known.items()), part)
        if kind[0] == "mark":
            told[tuple(place)] = kind[1]
    return told


def plain_round(program, above, below, times):
    """A program gone round, by the words of the document."""
    ring = at_place(program, above)
    told, place = program, list(below)
    for _ in range(times - 1):
        told = put_at(told, place, ring)
        place = place + below[len(above):]
    return tidy(told)


class GoneRound(unittest.TestCase):
    def test_once_is_itself(self):
        program = give(F, give(F, P))
        for above, below in [([], [1]), ([1], [1, 1]), ([], [1, 1])]:
            self.assertEqual(gone_round(program, above, below, 1), program)

    def test_twice_and_more(self):
        program = give(F, P)
        for times in range(1, 13):
            told = P
            for _ in range(times):
                told = give(F, told)
            self.assertEqual(gone_round(program, [], [1], times), told)
        program = give(F, give(F, P))
        self.assertEqual(gone_round(program, [1], [1, 1], 3), give(F, give(F, give(F, give(F, P)))))
        self.assertEqual(gone_round(program, [], [1, 1], 3), give(F, give(F, give(F, give(F, give(F, give(F, P)))))))
        self.assertEqual(gone_round(program, [], [1], 3), give(F, give(F, give(F, give(F, P)))))
        f = name("f")
        program = pair(P, give(f, P, give(f, P, P)))
        self.assertEqual(gone_round(program, [1], [1, 1, 1], 2),
                         pair(P, give(f, P, give(f, P, give(f, P, give(f, P, P))))))
        self.assertEqual(gone_round(program, [1], [1, 0, 1], 3),
                         pair(P, give(f, give(f, give(f, P, give(f, P, P)), give(f, P, P)), give(f, P, P))))

    def test_it_is_tidied(self):
        row = [("g", to(to(A, B), A)), ("f", to(A, B))]
        program = give(G, take("x0", A, give(F, X0)))
        self.assertIs(is_ring(row, A, program, [], [1, 0, 1]), True)
        self.assertEqual(gone_round(program, [], [1, 0, 1], 2),
                         give(G, take("x0", A, give(F, give(G, take("x1", A, give(F, X1)))))))
        self.assertEqual(gone_round(program, [], [1, 0, 1], 3),
                         give(G, take("x0", A, give(F, give(G, take("x1", A, give(F, give(G, take("x2", A, give(F, X2))))))))))

    def test_what_is_taken_further_out_stays(self):
        # Within the ring stand a name that is taken round it, and one that is taken in it.
        row = [("g", to(to(A, A), A, A))]
        kind = to(A, A)
        program = take("x0", A, give(G, take("x1", A, give(G, take("x2", A, X1), X0)), X0))
        self.assertTrue(is_plain_long(row, kind, program))
        above, below = [0], [0, 0, 1, 0, 0, 1, 0]
        self.assertIs(is_ring(row, kind, program, above, below), True)
        told = gone_round(program, above, below, 2)
        self.assertEqual(told, take("x0", A, give(G, take("x1", A, give(G, take("x2", A, give(
            G, take("x3", A, give(G, take("x4", A, name("x3")), X0)), X0)), X0)), X0)))
        self.assertTrue(is_plain_long(row, kind, told))

    def test_each_is_plain_long_and_has_more_names(self):
        seen = 0
        for row, kind in random_rows(26, 120, 10):
            for program in longs_to(row, kind, 5)[:10]:
                due = marks_at(row, program, kind)
                for above in due:
                    for below in due:
                        if below[:len(above)] == above and len(above) < len(below) and due[above] == due[below]:
                            self.rounds(row, kind, program, list(above), list(below))
                            seen += 1
        self.assertGreater(seen, 100)

    def rounds(self, row, kind, program, above, below):
        self.assertIs(is_ring(row, kind, program, above, below), True)
        names = 0
        for times in (1, 2, 3, 12):
            plain = plain_round(program, above, below, times)
            if parts_of(plain) > 1500 or deep_of(plain) > 100:
                self.assertEqual(times, 12)
                with self.assertRaises(TooLong):
                    gone_round(program, above, below, times)
                continue
            told = gone_round(program, above, below, times)
            self.assertEqual(told, plain)
            self.assertTrue(is_plain_long(row, kind, told))
            self.assertEqual(tidy(told), told)
            self.assertGreater(names_in(told), names)
            names = names_in(told)

    def test_1500_parts_and_1501(self):
        # The ring has 121 parts, all but one of which come again in each round.
        row = [("s", to(A, A, A)), ("e", to(A, A)), ("p", A), ("q", both(A, A))]
        ring = give(name("s"), give(name("s"), P, fed(26, grove(16))), P)
        self.assertEqual(parts_of(ring), 121)
        for beside, parts in [(fed(28, P), 1499), (fed(28, first(name("q"))), 1500), (fed(29, P), 1501),
                              (fed(29, first(name("q"))), 1502)]:
            program = pair(ring, beside)
            self.assertIs(is_ring(row, both(A, A), program, [0], [0, 1]), True)
            self.assertEqual(parts_of(plain_round(program, [0], [0, 1], 12)), parts)
            if parts <= 1500:
                self.assertEqual(gone_round(program, [0], [0, 1], 12), plain_round(program, [0], [0, 1], 12))
            else:
                with self.assertRaises(TooLong):
                    gone_round(program, [0], [0, 1], 12)

    def test_100_deep_and_101(self):
        for deep in (8, 9, 10, 11, 25, 26, 50, 51):
            program = P
            for _ in range(deep):
                program = give(F, program)
            for times in range(1, 13):
                if deep * times <= 100:
                    told = gone_round(program, [], [1] * deep, times)
                    self.assertEqual(deep_of(told), deep * times)
                else:
                    with self.assertRaises(TooLong):
                        gone_round(program, [], [1] * deep, times)

    def test_one_of_a_making(self):
        program = made_by(ROW, A, [(0, 0, 0)] * 399 + [(0, 1, 0)])
        self.assertIs(is_ring(ROW, A, program, [], [1]), True)
        self.assertIs(is_ring(ROW, A, program, [1] * 398, [1] * 399), True)
        for times in (1, 2):
            with self.assertRaises(TooLong):
                gone_round(program, [], [1], times)

    def test_nothing_handed_in_is_changed(self):
        above, below = [1], [1, 1]
        gone_round(give(F, give(F, P)), above, below, 3)
        is_ring(ROW, A, give(F, give(F, P)), above, below)
        self.assertEqual((above, below), ([1], [1, 1]))


if __name__ == "__main__":
    unittest.main()
