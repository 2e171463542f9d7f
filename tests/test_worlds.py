"""Trees of worlds, and what holds in them [22]."""

import unittest
from itertools import product
from random import Random

from plainly import holds_at, random_kind, worlds_in
from samples import A, B, C, ONE, Rude, both, bush, chain, kinds_of_leaves, to

from kindfill.kinds import leaves_of
from kindfill.worlds import holds, is_tree, worlds_of

LEAF = ([], [])
TREES = [
    LEAF, (["a"], []), (["a", "b", "zzzzzz"], []), ([], [LEAF]), ([], [LEAF, LEAF, LEAF]), ([], [(["a"], [])]),
    (["a"], [(["a"], [])]), (["a"], [(["a", "b"], []), (["a", "c"], [(["a", "b", "c"], [])])]),
    ([], [(["b"], [(["a", "b"], [])]), LEAF]), (["ab", "b", "ba"], [(["aa", "ab", "b", "ba", "c"], [])]),
]
NO_TREES = [
    None, True, False, 0, 1, "", "a", b"a", [], (), {}, set(), Rude(), object(), is_tree, (None,), ([],), ([], [], []),
    [[], []], [["a"], []], ([], ()), ((), []), ((), ()), ("", []), ("a", []), ("ab", []), ([], ""), ([], {}), ({}, []),
    (set(), []), ({"a"}, []), ([], None), (None, []), (None, None), (Rude(), []), ([], Rude()), (True, []), ([], True), (0, []),
    (["a", "a"], []), (["b", "a"], []), (["a", "c", "b"], []), (["a", "b", "a"], []), ([""], []), (["A"], []),
    (["abcdefg"], []), (["a1"], []), (["x0"], []), ([None], []), ([True], []), ([0], []), ([["a"]], []), ([("mark", "a")], []),
    ([b"a"], []), ([Rude()], []), (["a", Rude()], []), (["a", None], []), (["a\n"], []), (["1"], []), (["a", 1], []),
    (("a",), []), (["a"], ([],)), (["a"], [LEAF]), (["a", "b"], [(["a"], [])]), (["a"], [(["b"], [])]),
    (["a", "b"], [(["a", "b"], []), (["b"], [])]), (["b"], [(["a", "b", "c"], [(["a", "c"], [])])]),
    (["b"], [(["b", "a"], [])]),
]


def stack(deep, marks=()):
    """A tree so many trees deep, one above the other."""
    tree = (list(marks), [])
    for _ in range(deep - 1):
        tree = (list(marks), [tree])
    return tree


class IsTree(unittest.TestCase):
    def test_trees(self):
        for tree in TREES:
            self.assertIs(is_tree(tree), True, tree)
            self.assertIs(is_tree(([], [tree])), True)
            self.assertIs(is_tree(([], [LEAF, ([], [tree, LEAF])])), True)

    def test_what_is_none_at_the_top_and_within(self):
        for thing in NO_TREES:
            self.assertIs(is_tree(thing), False)
            self.assertIs(is_tree(([], [thing])), False)
            self.assertIs(is_tree(([], [LEAF, thing])), False)
            self.assertIs(is_tree(([], [thing, LEAF])), False)
            self.assertIs(is_tree(([], [([], [LEAF, thing]), LEAF])), False)

    def test_a_mark_of_the_one_directly_below_is_wanted(self):
        self.assertIs(is_tree((["a"], [(["a", "b"], [(["a", "b", "c"], [])])])), True)
        self.assertIs(is_tree((["a"], [(["a", "b"], [(["a", "c"], [])])])), False)
        self.assertIs(is_tree((["a"], [(["a", "b"], [(["b", "c"], [])])])), False)

    def test_40_trees_deep_and_41(self):
        for deep, told in ((39, True), (40, True), (41, False), (42, False), (30000, False)):
            self.assertIs(is_tree(stack(deep)), told)
            self.assertIs(is_tree(stack(deep, ["a", "b"])), told)
        self.assertIs(is_tree(([], [LEAF, stack(39), LEAF])), True)
        self.assertIs(is_tree(([], [LEAF, stack(40), LEAF])), False)

    def test_things_within_themselves(self):
        trees = []
        trees.append(([], trees))
        self.assertIs(is_tree(trees[0]), False)
        trees.append(trees[0])
        self.assertIs(is_tree(([], trees)), False)

    def test_many_worlds(self):
        self.assertIs(is_tree(([], [LEAF] * 399)), True)
        self.assertIs(is_tree(([], [LEAF] * 398 + [((), [])])), False)


class WorldsOf(unittest.TestCase):
    def test_how_many(self):
        for tree, many in [(LEAF, 1), ((["a"], []), 1), (([], [LEAF]), 2), (([], [LEAF, LEAF]), 3), (stack(40), 40),
                           (([], [LEAF, ([], [LEAF, LEAF]), LEAF]), 6), (([], [LEAF] * 399), 400)]:
            self.assertEqual(worlds_of(tree), many)
        for tree in random_trees(3, 100):
            self.assertEqual(worlds_of(tree), len(worlds_in(tree)))


def random_trees(seed, many):
    random = Random(seed)
    return [random_tree(random, [], random.randint(1, 9))[0] for _ in range(many)]


def random_tree(random, below, left):
    """Some tree of at most so many worlds, and how many are left."""
    marks = sorted(set(below) | {mark for mark in "abc" if random.random() < 0.3})
    trees = []
    left -= 1
    while left > 0 and random.random() < 0.6:
        tree, left = random_tree(random, marks, left)
        trees.append(tree)
    return (marks, trees), left


class Holds(unittest.TestCase):
    def test_marks(self):
        tree = (["a"], [(["a", "b"], [])])
        self.assertIs(holds(tree, A), True)
        self.assertIs(holds(tree, B), False)
        self.assertIs(holds(tree[1][0], B), True)
        self.assertIs(holds(tree, ("mark", "other")), False)

    def test_the_one_always(self):
        for tree in TREES:
            self.assertIs(holds(tree, ONE), True)

    def test_both(self):
        for one, other in product((True, False), (True, False)):
            tree = (sorted(["a"] * one + ["b"] * other), [])
            self.assertIs(holds(tree, both(A, B)), one and other)
            self.assertIs(holds(tree, both(B, A)), one and other)
        self.assertIs(holds((["a"], [(["a", "b"], [])]), both(A, B)), False)

    def test_functions_in_one_world(self):
        for one, other in product((True, False), (True, False)):
            tree = (sorted(["a"] * one + ["b"] * other), [])
            self.assertIs(holds(tree, to(A, B)), other or not one)

    def test_functions_by_way_of_a_world_above(self):
        self.assertIs(holds(([], [(["a"], [])]), to(A, B)), False)
        self.assertIs(holds(([], [LEAF, (["a"], []), (["b"], [])]), to(A, B)), False)
        self.assertIs(holds(([], [(["a", "b"], []), (["b"], [])]), to(A, B)), True)
        self.assertIs(holds(([], [(["a", "b"], []), (["b"], [])]), to(B, A)), False)
        self.assertIs(holds((["b"], [(["a", "b"], [])]), to(A, B)), True)

    def test_functions_by_way_of_a_world_far_above(self):
        tree = (["a"], [])
        for _ in range(39):
            tree = ([], [LEAF, tree, LEAF])
        self.assertIs(is_tree(tree), True)
        self.assertIs(holds(tree, to(A, B)), False)
        self.assertIs(holds(tree, to(A, A)), True)
        self.assertIs(holds(tree, to(B, A)), True)
        self.assertIs(holds(tree, both(ONE, to(ONE, to(A, B)))), False)
        # In the worlds beside it nothing bars ( a -> b ).
        self.assertIs(holds(tree, to(to(A, B), C)), False)
        self.assertIs(holds((["a"], [(["a"], [(["a"], [(["a", "b"], [])])])]), to(to(A, B), B)), True)

    def test_only_worlds_above_count(self):
        tree = ([], [(["a"], []), (["b"], [(["b", "c"], [])])])
        self.assertIs(holds(tree, to(A, B)), False)
        self.assertIs(holds(tree[1][1], to(A, B)), True)
        self.assertIs(holds(tree[1][0], to(A, B)), False)
        self.assertIs(holds(tree, to(C, B)), True)

    def test_what_no_one_world_can_bar(self):
        kind = to(to(to(A, B), A), A)
        for marks in ([], ["a"], ["b"], ["a", "b"]):
            self.assertIs(holds((marks, []), kind), True)
        self.assertIs(holds(([], [(["a"], [])]), kind), False)

    def test_all_small_kinds_in_many_trees(self):
        trees = TREES + random_trees(22, 60)
        for leaves in (1, 2, 3):
            for kind in kinds_of_leaves(leaves, (A, B, ONE)):
                for tree in trees:
                    self.assertIs(holds(tree, kind), holds_at(tree, kind))
                    self.assertTrue(not holds_at(tree, kind) or all(holds_at(each, kind) for each in tree[1]))

    def test_kinds_of_up_to_24_leaves(self):
        random = Random(24)
        trees = random_trees(220, 40)
        for _ in range(60):
            kind = random_kind(random, random.randint(4, 24), (A, B, C, ONE), 0.6)
            for tree in trees:
                self.assertIs(holds(tree, kind), holds_at(tree, kind))
        self.assertEqual(leaves_of(bush(24)), 24)
        self.assertIs(holds((["a"], []), bush(24)), True)
        self.assertIs(holds((["b"], []), bush(24)), False)
        self.assertIs(holds((["a"], [(["a"], [])]), chain(12)), False)

    def test_of_many_worlds(self):
        tree = ([], [(["a"], [(["a", "b"], []) for _ in range(30)]) for _ in range(12)])
        self.assertEqual(worlds_of(tree), 373)
        random = Random(23)
        for _ in range(5):
            kind = random_kind(random, 24, (A, B, C, ONE), 0.9)
            self.assertIs(holds(tree, kind), holds_at(tree, kind))

    def test_nothing_handed_in_is_changed(self):
        tree = ([], [(["a"], []), (["b"], [])])
        holds(tree, to(A, B))
        is_tree(tree)
        worlds_of(tree)
        self.assertEqual(tree, ([], [(["a"], []), (["b"], [])]))


if __name__ == "__main__":
    unittest.main()
