"""Sides [33]."""

import copy
import unittest

from itertools import permutations
from plainly import longs_to, random_rows
from samples import A, B, C, ONE, both, kinds_of_leaves, to
from test_counting import paper_of

from kindfill.counting import counts_of, shortest
from kindfill.sides import sides_of, stand_once
from kindfill.tables import told_many

D = ("mark", "d")


def plain_sides(kind, positive):
    """The marks of a kind with whether each stands on the right."""
    if kind[0] == "mark":
        return [(kind[1], positive)]
    if kind == ONE:
        return []
    return plain_sides(kind[1], positive != (kind[0] == "to")) + plain_sides(kind[2], positive)


def shapes(leaves):
    """All kinds of so many leaves, each leaf a one."""
    return kinds_of_leaves(leaves, (ONE,))


def marked(kind, marks):
    """A kind with marks, taken off the list, for its ones."""
    if kind == ONE:
        return marks.pop(0)
    one = marked(kind[1], marks)
    return (kind[0], one, marked(kind[2], marks))


class SidesOf(unittest.TestCase):
    def test_marks_and_one(self):
        self.assertEqual(sides_of([], A), {"a": (0, 1)})
        self.assertEqual(sides_of([], ONE), {})
        self.assertEqual(sides_of([("p", ONE)], to(ONE, ONE)), {})
        self.assertEqual(sides_of([("p", A)], ONE), {"a": (1, 0)})
        self.assertEqual(sides_of([("p", A)], A), {"a": (1, 1)})
        self.assertEqual(sides_of([("p", A)], B), {"a": (1, 0), "b": (0, 1)})

    def test_functions(self):
        self.assertEqual(sides_of([], to(A, B)), {"a": (1, 0), "b": (0, 1)})
        self.assertEqual(sides_of([("f", to(A, B))], ONE), {"a": (0, 1), "b": (1, 0)})
        self.assertEqual(sides_of([], to(to(A, B), C)), {"a": (0, 1), "b": (1, 0), "c": (0, 1)})
        self.assertEqual(sides_of([("f", to(to(A, B), C))], ONE), {"a": (1, 0), "b": (0, 1), "c": (1, 0)})
        self.assertEqual(sides_of([], to(to(to(A, B), C), D)), {"a": (1, 0), "b": (0, 1), "c": (1, 0), "d": (0, 1)})
        self.assertEqual(sides_of([], to(A, A, A)), {"a": (2, 1)})
        self.assertEqual(sides_of([], to(to(A, A), A)), {"a": (1, 2)})

    def test_pairs(self):
        self.assertEqual(sides_of([], both(A, both(B, A))), {"a": (0, 2), "b": (0, 1)})
        self.assertEqual(sides_of([("p", both(A, B))], both(B, ONE)), {"a": (1, 0), "b": (1, 1)})
        self.assertEqual(sides_of([], to(both(to(A, B), A), both(A, to(B, C)))),
                         {"a": (1, 2), "b": (2, 0), "c": (0, 1)})

    def test_several_given_names(self):
        self.assertEqual(sides_of([("p", A), ("q", A), ("f", to(A, B))], both(A, B)), {"a": (2, 2), "b": (1, 1)})

    def test_by_the_words_of_the_document(self):
        for row, kind in random_rows(33, 400):
            told = plain_sides(kind, True)
            for text, given in row:
                told += plain_sides(given, False)
            expected = {mark: (told.count((mark, False)), told.count((mark, True))) for mark, side in told}
            self.assertEqual(sides_of(row, kind), expected)
            self.assertIs(stand_once(row, kind), all(max(sides) <= 1 for sides in expected.values()))

    def test_told_dicts_are_the_askers_own(self):
        row = [("f", to(A, B))]
        kept = copy.deepcopy(row)
        told = sides_of(row, A)
        told["c"] = told.pop("a")
        self.assertEqual(sides_of(row, A), {"a": (0, 2), "b": (1, 0)})
        self.assertEqual(row, kept)


class StandOnce(unittest.TestCase):
    def test_at_most_once_on_each_side(self):
        for row, kind in [([], ONE), ([], A), ([], to(A, A)), ([("p", A)], A), ([], to(A, B)), ([], both(A, B)),
                          ([("f", to(A, B)), ("g", to(B, C)), ("p", A)], C), ([], to(to(A, B), to(A, B)))]:
            self.assertIs(stand_once(row, kind), True)
        for row, kind in [([], both(A, A)), ([], to(A, A, A)), ([("p", A), ("q", A)], B), ([], to(to(A, A), A)),
                          ([("p", A)], to(A, B)), ([("f", to(A, B))], A), ([("p", both(A, A))], A)]:
            self.assertIs(stand_once(row, kind), False)

    def test_no_program_or_just_one(self):
        seen = [0, 0]
        marks = [A, A, B, B]
        for leaves in (1, 2, 3, 4):
            for order in set(permutations(marks, leaves)):
                for shape in shapes(leaves):
                    kind = marked(shape, list(order))
                    if stand_once([], kind):
                        seen[self.looked_at([], kind)] += 1
        self.assertTrue(min(seen) > 5, seen)

    def test_no_program_or_just_one_by_rows(self):
        seen = [0, 0]
        for row, kind in random_rows(330, 4000, 8, (A, B, C, D)):
            if stand_once(row, kind):
                seen[self.looked_at(row, kind)] += 1
        self.assertTrue(min(seen) > 30, seen)

    def looked_at(self, row, kind):
        """How many programs there are where each mark stands once."""
        told = sum(counts_of(row, kind, 16))
        self.assertLessEqual(told, 1)
        paper = paper_of(row, kind)
        self.assertEqual(paper[0], "many" if told else "none")
        if told:
            self.assertEqual(told_many(paper[1]), 1)
            self.assertEqual(shortest(row, kind)[1], 1)
        self.assertLessEqual(len(longs_to(row, kind, 4)), told)
        return told


if __name__ == "__main__":
    unittest.main()
