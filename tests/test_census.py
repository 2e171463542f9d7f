"""The census [35]."""

import unittest

from plainly import longs_to
from samples import ONE
from test_catalogue import LISTS, in_order
from test_settling import rings_in

from kindfill.catalogue import kinds_many
from kindfill.census import census, sort_of
from kindfill.errors import TooMany
from kindfill.kindtexts import read_kind


def plain_census(marks, leaves):
    """The census, program by program: of kinds of so few leaves a ring is found among programs of few names."""
    told = [0, 0, 0, 0]
    for kind in in_order(marks, leaves):
        programs = longs_to([], kind, 5)
        endless = any(rings_in([], kind, program) for program in programs)
        told[3 if endless else min(len(programs), 2)] += 1
    return tuple(told)


class Census(unittest.TestCase):
    def test_one_leaf(self):
        # The marks have none, the one has the thing.
        for marks in LISTS:
            self.assertEqual(census(marks, 1), (len(marks), 1, 0, 0))

    def test_two_leaves(self):
        # ( a -> 1 ), ( 1 -> 1 ), ( 1 * 1 ) and ( a -> a ) have one.
        self.assertEqual(census(["a"], 2), (4, 4, 0, 0))
        # Of two marks: ( m -> 1 ) and ( m -> m ) twice, ( 1 -> 1 ), ( 1 * 1 ).
        self.assertEqual(census(["a", "b"], 2), (12, 6, 0, 0))

    def test_program_by_program(self):
        for marks in LISTS:
            for leaves in (1, 2, 3):
                if kinds_many(marks, leaves) <= 600:
                    told = census(marks, leaves)
                    self.assertIsInstance(told, tuple)
                    self.assertEqual(told, plain_census(marks, leaves))
                    self.assertEqual(sum(told), kinds_many(marks, leaves))

    def test_sorts_that_few_kinds_have(self):
        # ( a -> ( a -> a ) ) and its like have two; three leaves are too few for no end of them.
        self.assertEqual(census(["a"], 3)[2:], (2, 0))
        self.assertEqual(census(["c", "a", "b"], 3)[2:], (6, 0))

    def test_without_marks(self):
        self.assertEqual(census([], 4), (0, 40, 0, 0))
        self.assertEqual(census([], 0), (0, 0, 0, 0))

    def test_600_kinds_and_more(self):
        for marks, leaves in [(["a"], 4), (["a", "b"], 4), (["a", "b", "c"], 4), (["a", "b", "c", "d"], 3), (["a"], 5),
                              (["a"], 10), (["a", "b", "c", "d"], 10), (["a", "b"], 11), (["a"], 30)]:
            self.assertGreater(kinds_many(marks, leaves), 600)
            with self.assertRaises(TooMany):
                census(marks, leaves)
        # Just 600, and one more, of one leaf.
        marks = [first + second for first in "abcdefghijklmnopqrstuvwxyz" for second in "abcdefghijklmnopqrstuvwxyz"][:600]
        self.assertEqual(census(marks[:599], 1), (599, 1, 0, 0))
        with self.assertRaises(TooMany):
            census(marks, 1)

    def test_the_sort_of_larger_kinds(self):
        # No census of so few kinds comes to these.
        for text, sort in [("( ( ( a -> b ) -> a ) -> a )", 0), ("( ( a -> a ) -> ( ( a -> a ) -> a ) )", 0), ("( ( a -> b ) -> ( a -> b ) )", 1),
                           ("( a -> ( a -> ( a -> a ) ) )", 2), ("( ( a * a ) -> ( a * a ) )", 2), ("( ( a -> a ) -> ( a -> a ) )", 3),
                           ("( ( ( a -> b ) -> a ) -> ( ( a -> b ) -> b ) )", 3), ("( a -> ( ( a -> a ) -> ( 1 * a ) ) )", 3)]:
            self.assertEqual(sort_of(read_kind(text)), sort, text)

    def test_the_one_is_among_all(self):
        self.assertEqual(in_order(["a"], 1)[-1], ONE)


if __name__ == "__main__":
    unittest.main()
