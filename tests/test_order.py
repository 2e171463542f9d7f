"""The plain long programs of a kind in their order [29]."""

import copy
import unittest

from plainly import is_plain_long, longs, parts, random_rows, spelled_out
from samples import A, B, C, ONE, THING, both, fed, first, give, name, pair, second, take, to
from test_counting import NUMERALS, ROW, paper_of, read_row

from kindfill.counting import counts_of, shortest
from kindfill.errors import NoLong, NoNumber
from kindfill.kindtexts import read_kind
from kindfill.longs import long_form, size_of
from kindfill.makings import made_by
from kindfill.order import number_of, of_size, spelling_of
from kindfill.programs import parts_of
from kindfill.rings import gone_round
from kindfill.plans import spelled
from kindfill.shortlongs import ShortLongs
from kindfill.tables import told_by

P, Q, F, G, H = [name(text) for text in "pqfgh"]
X0, X1, X2 = [name(text) for text in ("x0", "x1", "x2")]
FAR = 10 ** 30


class SpellingOf(unittest.TestCase):
    def test_no_names(self):
        self.assertEqual(spelling_of([], ONE, THING), [])
        self.assertEqual(spelling_of(ROW, both(ONE, to(A, ONE)), pair(THING, take("x0", A, THING))), [])

    def test_one_name(self):
        self.assertEqual(spelling_of([("p", A)], A, P), [(0, 0)])
        self.assertEqual(spelling_of([("q", B), ("p", A)], A, P), [(1, 0)])
        self.assertEqual(spelling_of([], to(A, A), take("x0", A, X0)), [(0, 0)])
        self.assertEqual(spelling_of([("q", B), ("p", A)], to(A, B, A), take("x0", A, take("x1", B, X0))), [(2, 0)])

    def test_the_number_among_all_ways(self):
        row = [("h", both(both(A, B), to(B, both(B, A))))]
        self.assertEqual(spelling_of(row, A, first(first(H))), [(0, 0)])
        self.assertEqual(spelling_of(row, B, second(first(H))), [(0, 1)])
        self.assertEqual(spelling_of(row, A, second(give(second(H), second(first(H))))), [(0, 3), (0, 1)])
        self.assertEqual(spelling_of(row, B, first(give(second(H), second(first(H))))), [(0, 2), (0, 1)])

    def test_names_from_the_left(self):
        row = [("p", A), ("f", to(A, B, A)), ("q", B), ("g", to(A, B))]
        self.assertEqual(spelling_of(row, A, give(F, P, Q)), [(1, 0), (0, 0), (2, 0)])
        self.assertEqual(spelling_of(row, both(B, A), pair(give(G, P), give(F, give(F, P, Q), give(G, P)))),
                         [(3, 0), (0, 0), (1, 0), (1, 0), (0, 0), (2, 0), (3, 0), (0, 0)])

    def test_given_names_ahead_of_taken_ones(self):
        row = [("e", to(to(A, A), A)), ("p", A)]
        for told, index in ((P, 1), (X0, 2), (X1, 3)):
            program = take("x0", A, give(name("e"), take("x1", A, told)))
            self.assertEqual(spelling_of(row, to(A, A), program), [(0, 0), (index, 0)])

    def test_no_long_ones(self):
        for told in (spelling_of, number_of):
            for row, kind, program in [
                ([], A, P), ([("p", A)], B, P), ([("p", A)], ONE, P), ([], A, THING), ([], to(A, A), take("x1", A, X1)),
                ([], to(A, A), take("y", A, name("y"))), ([], to(A, A), take("x0", B, X0)), ([("f", to(A, A))], to(A, A), F),
                ([("h", both(A, A))], both(A, A), H), ([("p", A)], A, first(pair(P, P))), (ROW, A, give(F, give(P, P))),
                (ROW, A, give(take("x0", A, X0), P)), ([("p", A)], both(A, A), P), ([], to(A, A), THING),
                (ROW, A, fed(600, P)), (ROW, A, fed(399, name("z"))),
            ]:
                with self.assertRaises(NoLong):
                    told(row, kind, program)

    def test_by_the_words_of_the_document(self):
        for row, kind in random_rows(29, 500):
            for size in range(5):
                for program in longs(row, kind, size)[:30]:
                    self.assertEqual(spelling_of(row, kind, program), spelled_out(row, kind, program))

    def test_very_large_programs(self):
        row = [("f", to(A, A)), ("p", A)]
        # A making of 3000 tuples makes a program that is 2999 deep.
        program = made_by(row, A, [(0, 0, 0)] * 2999 + [(0, 1, 0)])
        self.assertEqual(spelling_of(row, A, program), [(0, 0)] * 2999 + [(1, 0)])
        self.assertEqual(number_of(row, A, program)[0], 3000)


class OfSize(unittest.TestCase):
    def all_of(self, row, kind, size, many):
        """All programs of a size, each told by its number, told again, in the order of their spellings."""
        told = []
        for number in range(many):
            program = of_size(row, kind, size, number)
            self.assertEqual(number_of(row, kind, program), (size, number))
            told.append(spelling_of(row, kind, program))
            self.assertEqual(told[-1], spelled_out(row, kind, program))
            self.assertEqual(len(told[-1]), size)
        self.assertEqual(told, sorted(told))
        self.assertEqual(len({tuple(spelling) for spelling in told}), many)
        self.no_numbers(row, kind, size, many)

    def no_numbers(self, row, kind, size, many):
        for number in (-FAR, -2, -1, many, many + 1, 2 * many + 3, FAR, FAR ** 9):
            with self.assertRaises(NoNumber):
                of_size(row, kind, size, number)

    def test_in_order(self):
        row = [("p", A), ("q", A), ("h", both(A, A))]
        self.assertEqual([of_size(row, A, 1, number) for number in range(4)], [P, Q, first(H), second(H)])
        self.assertEqual([of_size([("q", A), ("p", A)], A, 1, number) for number in range(2)], [Q, P])
        self.assertEqual([of_size([], to(A, B, A, A), 1, number) for number in range(2)],
                         [take("x0", A, take("x1", B, take("x2", A, told))) for told in (X0, X2)])
        self.assertEqual(of_size([], ONE, 0, 0), THING)
        self.assertEqual(of_size(ROW, both(ONE, to(A, ONE)), 0, 0), pair(THING, take("x0", A, THING)))
        row = [("f", to(A, A)), ("p", A), ("q", A), ("g", to(A, A))]
        self.assertEqual([of_size(row, A, 2, number) for number in range(4)],
                         [give(F, P), give(F, Q), give(G, P), give(G, Q)])
        self.assertEqual([of_size([("p", A), ("f", to(A, A))], both(A, A), 3, number) for number in range(2)],
                         [pair(P, give(F, P)), pair(give(F, P), P)])
        self.assertEqual([of_size(ROW, both(A, A), 3, number) for number in range(2)],
                         [pair(give(F, P), P), pair(P, give(F, P))])

    def test_the_spelling_begins_with_which_name_it_is(self):
        # The name's number counts ahead of the way's; a program's first name ahead of what it is given.
        row = [("h", both(to(A, A), A)), ("p", A)]
        self.assertEqual([of_size(row, A, 2, number) for number in range(2)],
                         [give(first(H), second(H)), give(first(H), P)])
        self.assertEqual([of_size(row, A, 1, number) for number in range(2)], [second(H), P])

    def test_each_size_without_programs(self):
        for row, kind in [([], A), (ROW, B), ([], to(to(A, B), A))]:
            for size in range(17):
                self.no_numbers(row, kind, size, 0)
                with self.assertRaises(NoNumber):
                    of_size(row, kind, size, 0)
        for size in range(1, 17):
            with self.assertRaises(NoNumber):
                of_size([], ONE, size, 0)
        self.no_numbers([], ONE, 0, 1)

    def test_sizes_below_0_and_above_16(self):
        self.assertEqual(of_size(ROW, A, 16, 0), give(F, of_size(ROW, A, 15, 0)))
        for size in (-FAR, -1, 17, 18, 100, FAR):
            for number in (-1, 0, 1, FAR):
                for row, kind in [(ROW, A), ([], ONE), ([], NUMERALS), ([], A)]:
                    with self.assertRaises(NoNumber):
                        of_size(row, kind, size, number)

    def test_all_of_each_size(self):
        for row, kind in [
            (ROW, A), ([], NUMERALS), ([("p", both(A, A))], both(A, A)), ([("s", to(A, A, A)), ("p", A), ("q", A)], A),
            ([("e", to(to(A, A), A)), ("p", A), ("q", A)], A), ([("e", to(to(A, A), to(B, A), A)), ("p", A)], A),
            ([("h", both(both(A, to(B, A)), both(A, B))), ("g", to(A, B))], both(A, B)),
            ([], to(to(to(A, B), A), to(A, B), A)), ([], read_kind("( ( ( a -> a ) -> a ) -> ( ( a -> a ) -> a ) )")),
        ]:
            counts = counts_of(row, kind, 16)
            for size in range(17):
                if counts[size] <= 200:
                    self.all_of(row, kind, size, counts[size])
                else:
                    self.no_numbers(row, kind, size, counts[size])

    def test_rows_with_given_names(self):
        seen = 0
        for row, kind in random_rows(290, 500) + random_rows(291, 300, 12, (A, B)):
            for size in range(5):
                programs = longs(row, kind, size)
                if len(programs) <= 60:
                    self.all_of(row, kind, size, len(programs))
                    ordered = sorted(programs, key=lambda program: spelled_out(row, kind, program))
                    self.assertEqual([of_size(row, kind, size, at) for at in range(len(ordered))], ordered)
                    seen += len(programs) > 2
        self.assertGreater(seen, 200)

    def test_great_numbers(self):
        kind = read_kind("( ( ( ( ( ( ( a -> a ) -> a ) -> a ) -> a ) -> a ) -> a ) -> ( ( ( a -> a ) -> a ) -> a ) )")
        many = counts_of([], kind, 16)[16]
        self.assertGreater(many, 10 ** 9)
        told = []
        for number in [0, 1, 2, many // 3, many // 2, many - 2, many - 1]:
            program = of_size([], kind, 16, number)
            self.assertTrue(is_plain_long([], kind, program))
            self.assertEqual(number_of([], kind, program), (16, number))
            told.append(spelling_of([], kind, program))
        self.assertEqual(told, sorted(told))
        self.no_numbers([], kind, 16, many)

    def test_what_the_papers_tell_comes_back(self):
        seen = {"many": 0, "endless": 0}
        for row, kind in random_rows(292, 400):
            paper = paper_of(row, kind)
            programs = told_by(row, kind, paper[1]) if paper and paper[0] == "many" else []
            if paper and paper[0] == "endless":
                programs = [gone_round(*paper[1:], times) for times in range(1, 13)]
            for program in [program for program in programs if size_of(program) <= 16]:
                size, number = number_of(row, kind, program)
                self.assertEqual(size, size_of(program))
                self.assertEqual(of_size(row, kind, size, number), program)
                seen[paper[0]] += 1
        self.assertTrue(all(many > 150 for many in seen.values()), seen)

    def test_each_is_its_own_long_form(self):
        for row, kind in random_rows(293, 200):
            for size, many in enumerate(counts_of(row, kind, 9)):
                for number in range(min(many, 3)):
                    program = of_size(row, kind, size, number)
                    if parts_of(program) < 200:
                        self.assertEqual(long_form(row, program), program)

    def test_what_is_handed_in_stays(self):
        row = [("f", to(A, A)), ("p", A)]
        told = spelling_of(row, A, give(F, P))
        told.append("changed")
        self.assertEqual(spelling_of(row, A, give(F, P)), [(0, 0), (1, 0)])
        for row, kind in random_rows(294, 60):
            kept = copy.deepcopy((row, kind))
            for size, many in enumerate(counts_of(row, kind, 6)):
                if many:
                    number_of(row, kind, of_size(row, kind, size, many - 1))
            self.assertEqual((row, kind), kept)


def first_short(row, kind):
    return spelled(row, kind, ShortLongs(row, kind).spelling())


class FirstShort(unittest.TestCase):
    def test_the_one_with_the_number_0(self):
        seen = 0
        for row, kind in random_rows(295, 600):
            least = shortest(row, kind)
            if least and least[0] <= 16:
                self.assertEqual(first_short(row, kind), of_size(row, kind, least[0], 0))
                seen += least[1] > 1
        self.assertGreater(seen, 60)

    def test_above_16_names(self):
        row = read_row(["( b -> ( b -> ( b -> c ) ) )", "( a -> ( a -> ( a -> b ) ) )", "a", "a"])
        program = first_short(row, C)
        self.assertEqual(size_of(program), 13)
        self.assertTrue(is_plain_long(row, both(C, C), first_short(row, both(C, C))))
        self.assertEqual(first_short(row, both(C, C)), pair(program, program))
        b = give(Q, name("r"), name("r"), name("r"))
        self.assertEqual(program, give(P, b, b, b))
        self.assertEqual(parts(first_short(row, both(C, both(C, C)))), 3 * 25 + 2)


if __name__ == "__main__":
    unittest.main()
