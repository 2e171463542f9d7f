"""Kinds gone through [34]."""

import unittest

from itertools import permutations
from random import Random
from plainly import random_kind
from samples import A, B, C, ONE, both, kinds_of_leaves, to

from kindfill.catalogue import kind_at, kind_number, kinds_many
from kindfill.errors import NoNumber
from kindfill.kinds import is_kind, leaves_of
from kindfill.kindtexts import read_kind

LISTS = [["a"], ["b"], ["a", "b"], ["b", "a"], ["c", "a", "b"], ["d", "abcdef", "a", "zz"]]
FAR = 10 ** 30


def in_order(marks, leaves):
    """All kinds over the marks of so many leaves, in their order, by the words of the document."""
    if leaves == 1:
        return [("mark", mark) for mark in marks] + [ONE]
    told = []
    for ahead in range(1, leaves):
        for word in ("to", "both"):
            for one in in_order(marks, ahead):
                told += [(word, one, other) for other in in_order(marks, leaves - ahead)]
    return told


class KindsMany(unittest.TestCase):
    def test_by_hand(self):
        self.assertEqual([kinds_many(["a"], leaves) for leaves in range(1, 6)], [2, 8, 64, 640, 7168])
        self.assertEqual([kinds_many(["b", "a"], leaves) for leaves in range(1, 5)], [3, 18, 216, 3240])
        self.assertEqual([kinds_many(["a", "b", "c"], leaves) for leaves in range(1, 4)], [4, 32, 512])
        self.assertEqual([kinds_many(["a", "b", "c", "d"], leaves) for leaves in range(1, 4)], [5, 50, 1000])

    def test_up_to_10_leaves(self):
        # So many ways are there to part leaves, two words at each part, and so many ends at each leaf.
        trees = [1, 1, 2, 5, 14, 42, 132, 429, 1430, 4862]
        for marks in LISTS:
            for leaves in range(1, 11):
                many = trees[leaves - 1] * 2 ** (leaves - 1) * (len(marks) + 1) ** leaves
                self.assertEqual(kinds_many(marks, leaves), many)

    def test_a_little_beyond(self):
        self.assertEqual(kinds_many(["a"], 0), 0)
        self.assertEqual(kinds_many(["a"], -1), 0)
        self.assertEqual(kinds_many(["a"], 11), 16796 * 2 ** 10 * 2 ** 11)
        self.assertEqual(kinds_many(["a", "b", "c", "d", "e"], 2), 72)


class KindAt(unittest.TestCase):
    def no_numbers(self, marks, leaves, many):
        for number in (-FAR, -2, -1, many, many + 1, 2 * many, FAR, FAR ** 5):
            with self.assertRaises(NoNumber):
                kind_at(marks, leaves, number)

    def test_one_leaf(self):
        self.assertEqual([kind_at(["b", "a"], 1, number) for number in range(3)], [B, A, ONE])

    def test_two_leaves(self):
        told = [to(A, A), to(A, ONE), to(ONE, A), to(ONE, ONE), both(A, A), both(A, ONE), both(ONE, A), both(ONE, ONE)]
        self.assertEqual([kind_at(["a"], 2, number) for number in range(8)], told)

    def test_three_leaves(self):
        self.assertEqual(kind_at(["a"], 3, 0), to(A, to(A, A)))
        self.assertEqual(kind_at(["a"], 3, 7), to(A, both(ONE, ONE)))
        self.assertEqual(kind_at(["a"], 3, 8), to(ONE, to(A, A)))
        self.assertEqual(kind_at(["a"], 3, 16), both(A, to(A, A)))
        self.assertEqual(kind_at(["a"], 3, 32), to(to(A, A), A))
        self.assertEqual(kind_at(["a"], 3, 33), to(to(A, A), ONE))
        self.assertEqual(kind_at(["a"], 3, 63), both(both(ONE, ONE), ONE))

    def test_all_of_few_leaves(self):
        for marks in LISTS:
            for leaves in (1, 2, 3, 4) if len(marks) < 3 else (1, 2, 3):
                told = in_order(marks, leaves)
                self.assertEqual(kinds_many(marks, leaves), len(told))
                self.assertEqual([kind_at(marks, leaves, number) for number in range(len(told))], told)
                self.assertEqual([kind_number(marks, kind) for kind in told],
                                 [(leaves, number) for number in range(len(told))])
                self.no_numbers(marks, leaves, len(told))

    def test_each_once(self):
        told = [kind_at(["a", "bcd"], 4, number) for number in range(kinds_many(["a", "bcd"], 4))]
        self.assertEqual(set(told), set(kinds_of_leaves(4)))
        self.assertEqual(len(told), len(set(told)))

    def test_of_many_leaves(self):
        random = Random(34)
        for marks in LISTS:
            for leaves in range(5, 11):
                many = kinds_many(marks, leaves)
                numbers = [0, 1, many // 2 - 1, many // 2, many - 2, many - 1] + [random.randrange(many) for _ in range(30)]
                for number in numbers:
                    kind = kind_at(marks, leaves, number)
                    self.assertTrue(is_kind(kind))
                    self.assertEqual(leaves_of(kind), leaves)
                    self.assertEqual(kind_number(marks, kind), (leaves, number))
                self.no_numbers(marks, leaves, many)

    def test_no_leaves(self):
        for leaves in (0, -1):
            for number in (-1, 0, 1, FAR):
                with self.assertRaises(NoNumber):
                    kind_at(["a"], leaves, number)


class KindNumber(unittest.TestCase):
    def test_by_the_order_of_the_marks(self):
        for marks in permutations(["a", "b", "c"]):
            for at, mark in enumerate(marks):
                self.assertEqual(kind_number(list(marks), ("mark", mark)), (1, at))
            self.assertEqual(kind_number(list(marks), ONE), (1, 3))
            self.assertEqual(kind_number(list(marks), to(("mark", marks[0]), ("mark", marks[0]))), (2, 0))
            self.assertEqual(kind_number(list(marks), both(ONE, ONE)), (2, 31))

    def test_another_mark(self):
        for kind in (B, ("mark", "aa"), to(A, B), to(B, A), both(ONE, both(A, B)), to(to(A, A), both(A, C))):
            with self.assertRaises(NoNumber):
                kind_number(["a"], kind)
        self.assertEqual(kind_number(["a"], A), (1, 0))
        with self.assertRaises(NoNumber):
            kind_number(["b", "c", "d", "e"], A)

    def test_10_leaves_and_11(self):
        random = Random(340)
        for leaves in range(8, 15):
            for _ in range(20):
                kind = random_kind(random, leaves, (A, B, ONE))
                if leaves <= 10:
                    told, number = kind_number(["b", "a"], kind)
                    self.assertEqual(told, leaves)
                    self.assertEqual(kind_at(["b", "a"], leaves, number), kind)
                else:
                    with self.assertRaises(NoNumber):
                        kind_number(["b", "a"], kind)
        with self.assertRaises(NoNumber):
            kind_number(["a"], read_kind("( b * ( a * ( a * ( a * ( a * ( a * ( a * ( a * ( a * ( a * a ) ) ) ) ) ) ) ) ) )"))

    def test_the_marks_stay(self):
        marks = ["b", "a"]
        kind_at(marks, 3, 5)
        kind_number(marks, to(A, B))
        kinds_many(marks, 4)
        self.assertEqual(marks, ["b", "a"])


if __name__ == "__main__":
    unittest.main()
