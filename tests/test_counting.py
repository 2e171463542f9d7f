"""Counts of each size [28], and the shortest [30]."""

import copy
import unittest

from plainly import longs, random_kind, random_rows
from random import Random
from samples import A, B, C, ONE, both, kinds_of_leaves, to

from kindfill.counting import counts_of, shortest
from kindfill.errors import TooMany
from kindfill.kinds import leaves_of
from kindfill.kindtexts import read_kind
from kindfill.rings import gone_round
from kindfill.settling import settled
from kindfill.longs import size_of
from kindfill.tables import told_by, told_many

ROW = [("f", to(A, A)), ("p", A)]
NUMERALS = to(to(A, A), A, A)


def sizes(row, kind, most):
    """The counts, program by program."""
    return [len(longs(row, kind, size)) for size in range(most + 1)]


def read_row(texts):
    return [("pqrstuvw"[at], read_kind(text)) for at, text in enumerate(texts)]


class CountsOf(unittest.TestCase):
    def test_no_program(self):
        for row, kind in [([], A), (ROW, B), (ROW[:1], A), ([], to(to(A, B), A)), (ROW, both(A, B)), ([("p", ONE)], A)]:
            for most in (0, 1, 8, 16):
                self.assertEqual(counts_of(row, kind, most), [0] * (most + 1))

    def test_no_names(self):
        for kind in (ONE, both(ONE, ONE), to(A, ONE), to(ONE, both(ONE, to(A, B, ONE)))):
            for row in ([], ROW):
                self.assertEqual(counts_of(row, kind, 0), [1])
                self.assertEqual(counts_of(row, kind, 1), [1, 0])
                self.assertEqual(counts_of(row, kind, 16), [1] + [0] * 16)

    def test_one_program(self):
        self.assertEqual(counts_of([], to(A, A), 8), [0, 1, 0, 0, 0, 0, 0, 0, 0])
        self.assertEqual(counts_of([("f", to(A, B)), ("p", A)], B, 4), [0, 0, 1, 0, 0])
        self.assertEqual(counts_of([("p", A)], both(A, both(A, A)), 4), [0, 0, 0, 1, 0])
        self.assertEqual(counts_of([("p", A)], both(A, ONE), 2), [0, 1, 0])

    def test_several_programs(self):
        self.assertEqual(counts_of([("p", A), ("q", A)], A, 3), [0, 2, 0, 0])
        self.assertEqual(counts_of([("p", both(A, A))], both(A, A), 3), [0, 0, 4, 0])
        self.assertEqual(counts_of([("p", A), ("f", to(A, B)), ("q", B), ("g", to(A, B)), ("r", A)], B, 3), [0, 1, 4, 0])
        self.assertEqual(counts_of([], to(A, A, A), 2), [0, 2, 0])

    def test_without_end(self):
        self.assertEqual(counts_of(ROW, A, 16), [0] + [1] * 16)
        self.assertEqual(counts_of([], NUMERALS, 16), [0] + [1] * 16)
        self.assertEqual(counts_of([("f", to(A, A)), ("g", to(A, A)), ("p", A)], A, 16), [0] + [2 ** n for n in range(16)])
        # So many trees are there in which each place has two below it, or none.
        self.assertEqual(counts_of([("s", to(A, A, A)), ("p", A)], A, 15),
                         [0, 1, 0, 1, 0, 2, 0, 5, 0, 14, 0, 42, 0, 132, 0, 429])

    def test_what_is_taken_further_in(self):
        # The name taken last, and each one that was taken ahead of it: one more of them for each e that stands round.
        row = [("e", to(to(A, A), A))]
        self.assertEqual(counts_of(row, A, 8), [0, 0, 1, 2, 3, 4, 5, 6, 7])
        row = [("e", to(to(A, A), A, A)), ("p", A)]
        self.assertEqual(counts_of(row, A, 6), sizes(row, A, 6))

    def test_names_of_one_kind_count_each(self):
        for many in range(1, 9):
            row = [("pqrstuvw"[at], A) for at in range(many)]
            self.assertEqual(counts_of(row, both(A, A), 3), [0, 0, many * many, 0])
            self.assertEqual(counts_of(row, to(A, A), 2), [0, many + 1, 0])
            self.assertEqual(counts_of(row, to(A, B, A, A), 2), [0, many + 2, 0])

    def test_pairs_count_each_with_each(self):
        row = [("f", to(A, A)), ("p", A), ("q", B), ("r", B)]
        self.assertEqual(counts_of(row, both(A, B), 6), [0, 0, 2, 2, 2, 2, 2])
        self.assertEqual(counts_of(row, both(A, A), 6), [0, 0, 1, 2, 3, 4, 5])
        self.assertEqual(counts_of(row, both(to(B, B), both(A, A)), 6), [0, 0, 0, 3, 6, 9, 12])

    def test_ways_count_each(self):
        row = [("h", both(both(A, to(B, A)), both(A, B)))]
        self.assertEqual(counts_of(row, A, 3), [0, 2, 1, 0])
        self.assertEqual(counts_of([("h", to(ONE, both(A, A)))], A, 3), [0, 2, 0, 0])

    def test_each_kind_of_up_to_4_leaves(self):
        for leaves in (1, 2, 3, 4):
            for kind in kinds_of_leaves(leaves, (A, B, ONE)):
                self.assertEqual(counts_of([], kind, 5), sizes([], kind, 5), kind)

    def test_rows_with_given_names(self):
        seen = 0
        for row, kind in random_rows(28, 700) + random_rows(280, 300, 12, (A, B)):
            told = sizes(row, kind, 4)
            self.assertEqual(counts_of(row, kind, 4), told)
            seen += max(told) > 2
        self.assertGreater(seen, 100)

    def test_a_lesser_most_tells_the_beginning(self):
        for row, kind in random_rows(281, 80) + [(ROW, A), ([], NUMERALS)]:
            told = counts_of(row, kind, 16)
            for most in range(17):
                self.assertEqual(counts_of(row, kind, most), told[:most + 1])

    def test_all_that_a_table_tells(self):
        seen = 0
        for row, kind in random_rows(282, 600):
            paper = paper_of(row, kind)
            if paper and paper[0] == "many":
                told = [size_of(program) for program in told_by(row, kind, paper[1])]
                self.assertEqual(counts_of(row, kind, 16), [told.count(size) for size in range(17)])
                self.assertEqual(shortest(row, kind), (min(told), told.count(min(told))))
                seen += told_many(paper[1]) > 1
            if paper and paper[0] == "none":
                self.assertEqual(counts_of(row, kind, 16), [0] * 17)
                self.assertIsNone(shortest(row, kind))
            if paper and paper[0] == "endless":
                for times in range(1, 13):
                    size = size_of(gone_round(*paper[1:], times))
                    if size <= 16:
                        self.assertGreater(counts_of(row, kind, 16)[size], 0)
        self.assertGreater(seen, 60)

    def test_large_counts(self):
        # Round the last name stand n - 1 takes: it is one of what they take, or given.
        row = [("p", A), ("q", A), ("e", to(to(A, A), A))]
        self.assertEqual(counts_of(row, A, 16), [0] + [n + 1 for n in range(1, 17)])
        deep = read_kind("( ( ( ( ( ( ( ( ( ( a -> a ) -> a ) -> a ) -> a ) -> a ) -> a ) -> a ) -> a ) -> a ) -> a )")
        self.assertEqual(counts_of([], deep, 7), sizes([], deep, 7))
        self.assertEqual(len(counts_of([], to(deep, A), 16)), 17)

    def test_told_lists_are_the_askers_own(self):
        row = [("f", to(A, A)), ("p", A)]
        told = counts_of(row, A, 3)
        told.append("changed")
        self.assertEqual(counts_of(row, A, 3), [0, 1, 1, 1])
        self.assertEqual(row, ROW)


class Shortest(unittest.TestCase):
    def test_none(self):
        for row, kind in [([], A), (ROW, B), (ROW[:1], A), ([], to(to(A, B), A)), (ROW, both(A, B)), ([("p", ONE)], A)]:
            self.assertIsNone(shortest(row, kind))

    def test_no_names(self):
        for kind in (ONE, both(ONE, ONE), to(A, ONE)):
            self.assertEqual(shortest([], kind), (0, 1))
            self.assertEqual(shortest(ROW, kind), (0, 1))

    def test_least_size_and_how_many_have_it(self):
        self.assertEqual(shortest(ROW, A), (1, 1))
        self.assertEqual(shortest([], NUMERALS), (1, 1))
        self.assertEqual(shortest([("p", A), ("q", A)], A), (1, 2))
        self.assertEqual(shortest([("p", A), ("q", A)], both(A, both(A, A))), (3, 8))
        self.assertEqual(shortest([("p", A), ("q", A), ("f", to(A, A, B)), ("g", to(A, B))], B), (2, 2))
        self.assertEqual(shortest([("p", A), ("q", A), ("f", to(A, A, B)), ("g", to(A, A, B))], B), (3, 8))
        self.assertEqual(shortest([("e", to(to(A, A), A))], A), (2, 1))
        self.assertEqual(shortest([("h", both(A, A)), ("p", A)], A), (1, 3))
        self.assertEqual(shortest([("f", to(ONE, A)), ("g", to(both(ONE, ONE), A))], A), (1, 2))

    def test_far_above_16(self):
        # Each function is given twice what comes of the one ahead of it: 1, 3, 7, 15.
        row = read_row(["a", "( a -> ( a -> b ) )", "( b -> ( b -> c ) )", "( c -> ( c -> d ) )"])
        for mark, size in (("a", 1), ("b", 3), ("c", 7), ("d", 15)):
            self.assertEqual(shortest(row, ("mark", mark)), (size, 1))
        self.assertEqual(shortest([("z", A), *row], ("mark", "d")), (15, 2 ** 8))
        longer = row + read_row(["( d -> ( d -> ( d -> e ) ) )", "( e -> ( e -> ( e -> f ) ) )"])
        self.assertEqual(shortest(longer, ("mark", "f")), (1 + 3 * (1 + 3 * 15), 1))
        self.assertEqual(counts_of(longer, ("mark", "f"), 16), [0] * 17)

    def test_far_above_16_within_12_leaves(self):
        kind = read_kind("( ( ( a -> ( a -> ( a -> b ) ) ) * ( ( a -> b ) -> ( a * a ) ) ) -> ( b * ( a * ( b -> a ) ) ) )")
        self.assertEqual(leaves_of(kind), 12)
        self.assertEqual(shortest([], kind), (23, 32))
        self.assertEqual(counts_of([], kind, 16), [0] * 17)
        row = read_row(["a", "( a -> ( a -> ( a -> b ) ) )", "( b -> ( b -> ( b -> c ) ) )"])
        self.assertEqual(shortest(row, both(C, both(C, C))), (39, 1))
        self.assertEqual(shortest(row[1:] + read_row(["a"]) + [("z", A)], C), (13, 2 ** 9))

    def test_just_as_the_counts_tell(self):
        random = Random(30)
        rows = random_rows(30, 600) + [([], random_kind(random, 12, (A, B))) for _ in range(300)]
        far = 0
        for row, kind in rows:
            told = counts_of(row, kind, 16)
            found = [(size, many) for size, many in enumerate(told) if many]
            if found:
                self.assertEqual(shortest(row, kind), found[0])
            else:
                least = shortest(row, kind)
                self.assertTrue(least is None or least[0] > 16)
                far += least is not None
                self.assertEqual(least is None, paper_of(row, kind) is not None and paper_of(row, kind)[0] == "none")
        self.assertLess(far, 30)

    def test_what_is_handed_in_stays(self):
        for row, kind in random_rows(301, 60):
            kept = copy.deepcopy((row, kind))
            counts_of(row, kind, 6)
            shortest(row, kind)
            self.assertEqual((row, kind), kept)


def paper_of(row, kind):
    """The paper that is told, or None."""
    try:
        return settled(row, kind)
    except TooMany:
        return None


if __name__ == "__main__":
    unittest.main()
