"""Kinds, their leaves and depths [5], their ends and ways [7]."""

import unittest

from samples import A, B, C, ONE, Rude, both, bush, chain, kinds_of_leaves, shared, to

from kindfill.kinds import depth_of, ends_of, is_kind, leaves_of, ways_of

NO_KINDS = [
    None, True, False, 0, 1, "", "a", "one", b"one", 7, [], {}, (), set(), Rude(), object(), is_kind,
    ("mark",), ("mark", "a", "b"), ("mark", ""), ("mark", "abcdefg"), ("mark", "A"), ("mark", "x1"), ("mark", "a\n"),
    ("mark", None), ("mark", True), ("mark", 1), ("mark", ("a",)), ("mark", ["a"]), ("mark", A), ("mark", b"a"),
    ["mark", "a"], ["one"], "mark", ("one", None), ("one", ()), ("one", A), ("One",), ("one ",), (1,), (None,), (True,),
    ((),), (("one",),), (["one"],), (b"one",), (Rude(),), (Rude(), A, B), ([], A, B), ({}, A, B),
    ("thing",), ("name", "a"), ("pair", A, B), ("gap", A), ("sum", A, B), ("", A, B), (None, A, B), (0, A, B),
    ("to",), ("to", A), ("to", A, B, C), ("both",), ("both", A), ("both", A, B, C), ["to", A, B], ["both", A, B],
]


class IsKind(unittest.TestCase):
    def test_each_form(self):
        for kind in [A, ("mark", "abcdef"), ONE, to(A, B), both(A, B), to(ONE, ONE), to(both(A, to(B, C)), ONE)]:
            self.assertIs(is_kind(kind), True)

    def test_all_small_ones(self):
        for leaves in (1, 2, 3):
            for kind in kinds_of_leaves(leaves):
                self.assertIs(is_kind(kind), True)
                self.assertEqual(leaves_of(kind), leaves)

    def test_what_is_none_at_the_top_and_within(self):
        for thing in NO_KINDS:
            self.assertIs(is_kind(thing), False)
            for word in ("to", "both"):
                self.assertIs(is_kind((word, thing, A)), False)
                self.assertIs(is_kind((word, A, thing)), False)
                self.assertIs(is_kind(both(A, to(B, (word, ONE, thing)))), False)

    def test_24_leaves_and_25(self):
        self.assertIs(is_kind(bush(24)), True)
        self.assertIs(is_kind(bush(25)), False)
        self.assertIs(is_kind(to(bush(12), bush(12))), True)
        self.assertIs(is_kind(to(bush(12), bush(13))), False)
        self.assertIs(is_kind(to(*[ONE] * 12, bush(13))), False)

    def test_12_deep_and_13(self):
        self.assertIs(is_kind(chain(12)), True)
        self.assertIs(is_kind(chain(13)), False)
        left = A
        for _ in range(12):
            left = both(left, ONE)
        self.assertIs(is_kind(left), True)
        self.assertIs(is_kind(both(left, ONE)), False)
        self.assertIs(is_kind(to(A, chain(11))), True)
        self.assertIs(is_kind(to(chain(11), A)), True)
        self.assertIs(is_kind(to(chain(12), A)), False)

    def test_very_large_things(self):
        self.assertIs(is_kind(chain(50000)), False)
        self.assertIs(is_kind(shared("both", A, 12)), False)
        self.assertIs(is_kind(shared("to", A, 60)), False)
        self.assertIs(is_kind(("mark", "a" * 100000)), False)
        self.assertIs(is_kind(("to",) * 100000), False)

    def test_a_tuple_that_holds_itself(self):
        held = []
        thing = ("to", A, held)
        held.append(thing)
        self.assertIs(is_kind(thing), False)


class LeavesAndDepth(unittest.TestCase):
    def test_small_ones(self):
        for kind, leaves, depth in [(A, 1, 0), (ONE, 1, 0), (to(A, B), 2, 1), (both(A, A), 2, 1), (to(A, B, C), 3, 2),
                                    (to(to(A, B), C), 3, 2), (both(to(A, B), both(A, ONE)), 4, 2),
                                    (both(to(A, B, C), A), 4, 3), (both(A, to(to(A, B), C)), 4, 3)]:
            self.assertEqual(leaves_of(kind), leaves)
            self.assertEqual(depth_of(kind), depth)

    def test_at_the_bounds_and_beyond(self):
        for leaves in (23, 24, 25, 40, 500):
            self.assertEqual(leaves_of(bush(leaves)), leaves)
        for depth in (11, 12, 13, 20, 112, 5000):
            self.assertEqual(depth_of(chain(depth)), depth)
            self.assertEqual(leaves_of(chain(depth)), depth + 1)


class EndsAndWays(unittest.TestCase):
    def test_of_a_mark_and_of_the_one(self):
        self.assertEqual(ends_of(A), [([], "a")])
        self.assertEqual(ways_of(A), [([], "a")])
        self.assertEqual(ends_of(ONE), [])
        self.assertEqual(ways_of(ONE), [])

    def test_of_a_pair(self):
        self.assertEqual(ends_of(both(A, B)), [([], "a"), ([], "b")])
        self.assertEqual(ways_of(both(A, B)), [([1], "a"), ([2], "b")])
        self.assertEqual(ways_of(both(both(A, B), C)), [([1, 1], "a"), ([1, 2], "b"), ([2], "c")])
        self.assertEqual(ends_of(both(ONE, B)), [([], "b")])
        self.assertEqual(ways_of(both(ONE, B)), [([2], "b")])

    def test_of_a_function(self):
        self.assertEqual(ends_of(to(A, B)), [([A], "b")])
        self.assertEqual(ways_of(to(A, B)), [([A], "b")])
        self.assertEqual(ends_of(to(A, B, C)), [([A, B], "c")])
        self.assertEqual(ways_of(to(A, B, C)), [([A, B], "c")])
        self.assertEqual(ends_of(to(to(A, B), C)), [([to(A, B)], "c")])
        self.assertEqual(ends_of(to(A, ONE)), [])
        self.assertEqual(ways_of(to(both(A, B), ONE)), [])

    def test_within_one_another(self):
        kind = to(C, both(to(both(A, B), A), both(ONE, to(ONE, B))))
        self.assertEqual(ends_of(kind), [([C, both(A, B)], "a"), ([C, ONE], "b")])
        self.assertEqual(ways_of(kind), [([C, 1, both(A, B)], "a"), ([C, 2, 2, ONE], "b")])
        self.assertEqual(ends_of(both(to(A, both(B, C)), to(B, A))), [([A], "b"), ([A], "c"), ([B], "a")])
        self.assertEqual(ways_of(both(to(A, both(B, C)), to(B, A))), [([1, A, 1], "b"), ([1, A, 2], "c"), ([2, B], "a")])

    def test_against_the_words_of_the_document(self):
        for leaves in (1, 2, 3, 4):
            for kind in kinds_of_leaves(leaves, (A, B, ONE)):
                self.assertEqual(ends_of(kind), plain_ends(kind))
                self.assertEqual(ways_of(kind), plain_ways(kind))
                self.assertEqual([mark for _, mark in ends_of(kind)], [mark for _, mark in ways_of(kind)])

    def test_beyond_the_bounds(self):
        self.assertEqual(ends_of(chain(40)), [([A] * 40, "b")])
        self.assertEqual(ways_of(chain(40)), [([A] * 40, "b")])
        self.assertEqual(ends_of(bush(60)), [([], "a")] * 60)
        self.assertEqual(len(ways_of(bush(60))), 60)

    def test_told_lists_are_the_askers_own(self):
        kind = to(A, both(B, both(C, to(A, B))))
        for told_of in (ends_of, ways_of):
            told = told_of(kind)
            again = told_of(kind)
            self.assertEqual(len({id(each[0]) for each in told + again}), len(told + again))
            for each in told:
                each[0].append("changed")
                each[0][0] = "changed"
            del told[1:]
            self.assertEqual(told_of(kind), again)
        self.assertEqual(kind, to(A, both(B, both(C, to(A, B)))))

    def test_one_told_list_changed_leaves_its_neighbours(self):
        told = ends_of(to(A, both(B, C)))
        told[0][0].append(C)
        self.assertEqual(told, [([A, C], "b"), ([A], "c")])
        told = ends_of(both(B, C))
        told[1][0].append(C)
        self.assertEqual(told, [([], "b"), ([C], "c")])


def plain_ends(kind):
    if kind[0] == "mark":
        return [([], kind[1])]
    if kind[0] == "one":
        return []
    if kind[0] == "both":
        return plain_ends(kind[1]) + plain_ends(kind[2])
    return [([kind[1]] + taken, mark) for taken, mark in plain_ends(kind[2])]


def plain_ways(kind):
    if kind[0] == "mark":
        return [([], kind[1])]
    if kind[0] == "one":
        return []
    if kind[0] == "both":
        return [([at] + moves, mark) for at in (1, 2) for moves, mark in plain_ways(kind[at])]
    return [([kind[1]] + moves, mark) for moves, mark in plain_ways(kind[2])]


if __name__ == "__main__":
    unittest.main()
