"""Trees that bar kinds [23]."""

import unittest

from plainly import bars_plainly, longs_to, random_rows, worlds_in
from samples import A, B, C, ONE, both, kinds_of_leaves, to
from test_worlds import LEAF, NO_TREES, TREES, random_trees, stack

from kindfill.barring import barring, bars
from kindfill.kindtexts import read_kind, shown_kind
from kindfill.worlds import is_tree, worlds_of

PEIRCE = to(to(to(A, B), A), A)
# Rows and kinds of up to 12 leaves that no program has, with functions of functions: many worlds are wanted.
HARD = [
    ([], "( ( ( a -> b ) -> a ) -> a )"),
    ([], "( ( ( ( ( a -> b ) -> a ) -> a ) -> a ) -> a )"),
    (["( ( ( ( a -> b ) -> a ) -> c ) -> a )"], "( ( c -> c ) -> ( ( ( ( a -> c ) -> c ) -> a ) -> a ) )"),
    (["( ( c -> d ) -> a )", "( ( ( ( ( a -> d ) -> a ) -> c ) -> c ) -> c )"], "c"),
    (["( ( ( ( a -> b ) -> c ) -> c ) -> c )", "( ( b -> a ) -> c )", "( a -> ( a -> a ) )"], "c"),
    (["( ( a -> b ) -> a )", "( ( b -> c ) -> b )", "( ( c -> d ) -> c )"], "d"),
    (["( ( c -> a ) -> c )", "( ( ( ( d -> b ) -> d ) -> d ) -> e )", "( ( a -> e ) -> a )"], "c"),
    (["( ( d -> c ) -> d )", "( ( e -> d ) -> e )"], "( ( ( ( b -> d ) -> e ) -> ( a -> e ) ) -> e )"),
    (["( ( e -> c ) -> e )", "( ( b -> ( a * e ) ) -> b )"], "( ( ( ( c -> b ) -> c ) -> e ) * b )"),
    (["( ( d -> c ) -> d )", "( ( c -> a ) -> c )", "( ( a -> e ) -> ( b -> a ) )"], "( d * c )"),
    ([], "( ( ( ( ( ( a -> b ) -> c ) -> d ) -> e ) -> f ) -> ( g -> h ) )"),
    ([], "( ( ( ( ( ( a -> b ) -> b ) -> a ) -> a ) -> ( a -> b ) ) -> ( b -> a ) )"),
    (["( ( ( a -> b ) -> c ) -> d )", "( ( ( b -> a ) -> d ) -> c )"], "( c -> ( a * b ) )"),
    (["( ( a -> d ) -> d )", "( ( b -> d ) -> d )", "( ( c -> d ) -> d )"], "d"),
    ([], "( ( ( ( ( b -> b ) * a ) -> b ) -> ( ( a -> b ) -> b ) ) -> ( ( ( a -> b ) -> a ) -> ( b * b ) ) )"),
    (["( ( ( a -> b ) -> a ) -> a )", "( ( ( b -> c ) -> b ) -> b )"], "( ( ( a -> c ) -> a ) -> a )"),
]


class Bars(unittest.TestCase):
    def test_one_that_bars(self):
        self.assertIs(bars([], A, LEAF), True)
        self.assertIs(bars([], A, (["b"], [])), True)
        self.assertIs(bars([("p", A)], B, (["a"], [])), True)
        self.assertIs(bars([("f", to(A, B))], B, LEAF), True)
        self.assertIs(bars([], to(A, B), ([], [(["a"], [])])), True)
        self.assertIs(bars([], PEIRCE, ([], [(["a"], [])])), True)
        self.assertIs(bars([("f", to(to(A, B), A))], A, ([], [(["a"], [])])), True)
        self.assertIs(bars([], both(ONE, A), LEAF), True)

    def test_one_at_whose_root_a_given_kind_does_not_hold(self):
        self.assertIs(bars([("p", A)], B, LEAF), False)
        self.assertIs(bars([("p", A), ("q", C)], B, (["a"], [(["a", "c"], [])])), False)
        self.assertIs(bars([("q", C), ("p", A)], B, (["a"], [(["a", "c"], [])])), False)
        self.assertIs(bars([("f", to(A, B))], B, ([], [(["a"], [])])), False)
        self.assertIs(bars([("f", to(to(A, B), A))], A, LEAF), False)

    def test_one_at_whose_root_the_kind_holds(self):
        self.assertIs(bars([], A, (["a"], [])), False)
        self.assertIs(bars([], ONE, LEAF), False)
        self.assertIs(bars([], to(A, A), ([], [(["a"], [])])), False)
        self.assertIs(bars([], to(A, B), LEAF), False)
        self.assertIs(bars([], PEIRCE, LEAF), False)
        self.assertIs(bars([], PEIRCE, (["b"], [])), False)
        self.assertIs(bars([("p", A)], A, (["a"], [])), False)

    def test_things_that_are_no_trees(self):
        for thing in NO_TREES:
            self.assertIs(bars([], A, thing), False)
            self.assertIs(bars([("p", B)], to(A, B), ([], [thing])), False)
        self.assertIs(bars([], A, stack(40)), True)
        self.assertIs(bars([], A, stack(41)), False)

    def test_many_trees(self):
        trees = TREES + random_trees(231, 60)
        for row, kind in random_rows(23, 120, 9):
            for tree in trees:
                self.assertIs(bars(row, kind, tree), bars_plainly(row, kind, tree))


class Barring(unittest.TestCase):
    def looked_at(self, row, kind):
        tree = barring(row, kind)
        self.assertIs(is_tree(tree), True)
        self.assertTrue(bars_plainly(row, kind, tree))
        self.assertIs(bars(row, kind, tree), True)
        self.assertLessEqual(worlds_of(tree), 300)
        return tree

    def test_where_no_program_has_it(self):
        for row, kind in [([], A), ([("p", B)], A), ([("f", to(A, B))], B), ([("f", to(A, B))], A), ([], to(A, B)),
                          ([], PEIRCE), ([("q", both(A, B))], C), ([], both(to(A, A), A)), ([("f", to(to(A, B), A))], A),
                          ([("p", ONE)], both(ONE, A)), ([("f", to(A, A))], A), ([("f", to(ONE, A))], to(A, B))]:
            self.looked_at(row, kind)

    def test_where_some_program_has_it(self):
        for row, kind in [([], ONE), ([], to(A, A)), ([("p", A)], A), ([("f", to(A, B)), ("p", A)], B), ([], to(A, ONE)),
                          ([("q", both(A, B))], both(B, A)), ([("f", to(ONE, A))], A), ([], to(to(A, A, B), A, B)),
                          ([], to(to(to(to(to(A, B), A), A), B), B)), ([("f", to(to(A, A), B))], B)]:
            self.assertIsNone(barring(row, kind))
        for texts, kind in [
            ([], "( ( ( ( ( ( ( a -> b ) -> a ) -> a ) -> b ) -> b ) -> a ) -> a )"),
            (["( ( a -> b ) -> c )", "( ( b -> c ) -> a )", "( ( c -> a ) -> b )"], "( a * ( b * c ) )"),
            ([], "( ( ( ( a -> b ) -> a ) -> ( ( b -> a ) -> b ) ) -> ( ( ( a -> b ) -> a ) -> b ) )"),
        ]:
            row = [("pqrs"[at], read_kind(text)) for at, text in enumerate(texts)]
            self.assertIsNone(barring(row, read_kind(kind)))

    def test_each_kind_of_up_to_4_leaves_over_two_marks(self):
        for leaves in (1, 2, 3, 4):
            for kind in kinds_of_leaves(leaves, (A, B, ONE)):
                # A program of such a kind, where there is one, is found among those of few names.
                if longs_to([], kind, 4):
                    self.assertIsNone(barring([], kind), shown_kind(kind))
                else:
                    self.looked_at([], kind)

    def test_never_both_a_program_and_a_tree(self):
        told = [barring(row, kind) is None for row, kind in random_rows(232, 400)]
        for (row, kind), found in zip(random_rows(232, 400), told):
            if found:
                self.assertTrue(longs_to(row, kind, 6), (row, shown_kind(kind)))
            else:
                self.assertFalse(longs_to(row, kind, 3))
                self.looked_at(row, kind)
        self.assertTrue(50 < sum(told) < 350)

    def test_where_many_worlds_are_wanted(self):
        most = 0
        for texts, kind in HARD:
            row = [("pqrs"[at], read_kind(text)) for at, text in enumerate(texts)]
            most = max(most, worlds_of(self.looked_at(row, read_kind(kind))))
        self.assertGreaterEqual(most, 6)

    def test_functions_of_functions_of_12_leaves(self):
        for seed, ends in ((233, (A, B)), (234, (A, B, C)), (235, (A, B, C, ("mark", "d"), ("mark", "e")))):
            for row, kind in random_rows(seed, 400, 12, ends, 0.95):
                if barring(row, kind) is not None:
                    self.looked_at(row, kind)

    def test_told_lists_are_the_askers_own(self):
        for texts, kind in HARD:
            row = [("pqrs"[at], read_kind(text)) for at, text in enumerate(texts)]
            told = barring(row, read_kind(kind))
            lists = [each for world in worlds_in(told) for each in world]
            self.assertEqual(len({id(each) for each in lists}), len(lists))
            again = barring(row, read_kind(kind))
            for each in lists:
                each.append("changed")
            self.assertEqual(barring(row, read_kind(kind)), again)


if __name__ == "__main__":
    unittest.main()
