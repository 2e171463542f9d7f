"""Papers let by [25], and told [27]."""

import copy
import unittest

from plainly import bars_plainly, is_plain_long, longs_to, parts, programs_in_table, random_rows
from samples import A, B, C, ONE, Rude, both, first, give, kinds_of_leaves, name, pair, take, to
from test_rings import NO_PLACES, THINGS, marks_at
from test_tables import bent
from test_worlds import LEAF, NO_TREES

from kindfill.errors import TooMany
from kindfill.kinds import leaves_of
from kindfill.kindtexts import read_kind, shown_kind
from kindfill.settling import lets, settled
from kindfill.tables import is_table, told_by, told_many
from kindfill.worlds import worlds_of

P, F, X0 = [name(text) for text in ["p", "f", "x0"]]
D = ("mark", "d")
MADE = ("made", [])
ROW = [("f", to(A, A)), ("p", A)]
RING = ("endless", give(F, P), [], [1])
# Rows and kinds of 12 leaves, and the fewest parts of a program of theirs with a ring.
LARGE = [
    (["( b -> ( ( b * b ) -> d ) )", "( ( a -> d ) -> a )"], "( ( a -> ( a -> b ) ) -> ( d * d ) )", 292),
    (["( ( e * ( e * e ) ) -> ( ( b -> ( b -> d ) ) * ( e -> b ) ) )"], "( ( ( e -> d ) -> e ) -> d )", 383),
    (["( ( b -> d ) -> b )", "( b -> ( b -> ( b -> ( ( c -> d ) * c ) ) ) )"], "( ( d * d ) * d )", 395),
    (["( ( a -> d ) -> a )", "( a -> ( a -> ( a -> ( a -> ( b * ( b -> d ) ) ) ) ) )"], "( d * d )", 411),
    (["( b -> ( b -> ( d * ( d -> ( d -> a ) ) ) ) )", "( ( b -> a ) -> b )"], "( a * ( a * a ) )", 458),
    (["( ( ( e * e ) * ( e * e ) ) -> d )"], "( ( ( ( ( e -> d ) -> e ) -> d ) -> e ) -> ( d * d ) )", 460),
]


def row_of(texts):
    return [("pqrstuvw"[at], read_kind(text)) for at, text in enumerate(texts)]


def rings_in(row, kind, program):
    """All pairs of places round which a plain long program can be made longer."""
    due = marks_at(row, program, kind)
    return [(list(above), list(below)) for above in due for below in due
            if len(above) < len(below) and below[:len(above)] == above and due[above] == due[below]]


class Lets(unittest.TestCase):
    def no_paper(self, row, kind, *things):
        for thing in things:
            self.assertIs(lets(row, kind, thing), False, thing)

    def test_each_sort(self):
        self.assertIs(lets([], A, ("none", LEAF)), True)
        self.assertIs(lets([], ONE, ("many", [])), True)
        self.assertIs(lets([("p", A)], A, ("many", [[MADE]])), True)
        self.assertIs(lets(ROW, A, RING), True)
        self.assertIs(lets(ROW, A, ("endless", give(F, give(F, P)), [1], [1, 1])), True)

    def test_none(self):
        self.no_paper([], ONE, ("none", LEAF))
        self.no_paper([("p", A)], A, ("none", LEAF), ("none", (["a"], [])))
        self.no_paper([("p", B)], A, ("none", LEAF), ("none", (["a", "b"], [])))
        self.assertIs(lets([("p", B)], A, ("none", (["b"], []))), True)
        self.no_paper([], A, *[("none", thing) for thing in NO_TREES])

    def test_many(self):
        self.no_paper([], A, ("many", [[]]), ("many", []), ("many", [[MADE]]))
        self.no_paper([("f", to(B, A))], A, ("many", [[("barred", 0, LEAF)]]), ("many", [[("made", [[[]]])]]))
        self.no_paper([("p", A)], A, ("many", [[]]), ("many", [[MADE, MADE]]), ("many", [MADE]), ("many", ([MADE],)))
        self.no_paper([("p", A)], both(A, B), ("many", [[MADE], []]))
        for thing in [None, True, 0, "", (), {}, Rude(), [Rude()], [[Rude()]], [[("made", Rude())]]]:
            self.no_paper([("p", A)], A, ("many", thing))
        self.no_paper([("f", to(A, B)), ("p", A)], B, ("many", [[("barred", 0, LEAF)]]), ("many", [[("barred", False, LEAF)]]))

    def test_endless(self):
        program = give(F, give(F, P))
        self.no_paper(ROW, A, ("endless", program, [1], []), ("endless", program, [1], [1]), ("endless", program, [], [0]),
                      ("endless", program, [1], [0, 1]), ("endless", program, [], [True]), ("endless", program, [], [2]),
                      ("endless", P, [], []), ("endless", P, [], [1]), ("endless", give(F, first(pair(P, P))), [], [1]),
                      ("endless", take("x0", A, X0), [], [0]))
        for thing in THINGS:
            self.no_paper(ROW, A, ("endless", thing, [], [1]), ("endless", give(F, thing), [], [1]))
        for thing in NO_PLACES:
            self.no_paper(ROW, A, ("endless", program, thing, [1]), ("endless", program, [], thing))

    def test_things_of_any_sort(self):
        for thing in [None, True, 0, "", "none", [], {}, set(), (), Rude(), ("none",), ("many",), ("endless",), (None, LEAF),
                      ("None", LEAF), (["none"], LEAF), (Rude(), LEAF), ("none", LEAF, LEAF), ["none", LEAF], (True, LEAF),
                      ("bars", LEAF), ("", LEAF), ("endless", LEAF), ("many", LEAF), ("none", []), (LEAF,), LEAF,
                      ("none", LEAF, [], [1])]:
            self.no_paper([], A, thing)
        for thing in [("none", []), ("endless", []), ("many", [], []), ("many", [], [], []), ["many", []], ("many ", [])]:
            self.no_paper([], ONE, thing)
        for thing in [list(RING), RING[:3], (*RING, []), ("none", *RING[1:]), ("many", *RING[1:]), ("Endless", *RING[1:]),
                      (None, *RING[1:]), (Rude(), *RING[1:]), (("endless",), *RING[1:]), RING[1:]]:
            self.no_paper(ROW, A, thing)
        self.assertIs(lets(ROW, A, RING), True)

    def test_papers_of_others(self):
        rows = random_rows(250, 60, 8)
        papers = []
        for row, kind in rows:
            try:
                papers.append(settled(row, kind))
            except TooMany:
                papers.append(None)
        for row, kind in rows:
            own = sorts_let(row, kind, papers)
            self.assertLessEqual(len(own), 1, (row, kind))

    def test_tables_bent_in_one_place(self):
        for row, kind in random_rows(251, 120, 9):
            paper = told(row, kind)
            if paper and paper[0] == "many":
                for other in bent(paper[1]):
                    self.assertIs(lets(row, kind, ("many", other)), is_table(row, kind, other) and told_many(other) > 0)


def sorts_let(row, kind, papers):
    return {paper[0] for paper in papers if paper and lets(row, kind, paper)}


def told(row, kind):
    """The paper that is told, or None."""
    try:
        return settled(row, kind)
    except TooMany:
        return None


class Settled(unittest.TestCase):
    def looked_at(self, row, kind):
        """The paper of a kind, looked through by the words of the document."""
        paper = settled(row, kind)
        self.assertIs(lets(row, kind, paper), True)
        if paper[0] == "none":
            self.assertEqual(len(paper), 2)
            self.assertTrue(bars_plainly(row, kind, paper[1]))
            self.assertLessEqual(worlds_of(paper[1]), 300)
        elif paper[0] == "many":
            self.assertEqual(len(paper), 2)
            programs = programs_in_table(row, kind, paper[1])
            self.assertEqual(told_by(row, kind, paper[1]), programs)
            self.assertTrue(1 <= len(programs) == len(set(programs)) <= 300)
            self.assertTrue(all(is_plain_long(row, kind, program) for program in programs))
        else:
            word, program, above, below = paper
            self.assertEqual(word, "endless")
            self.assertTrue(is_plain_long(row, kind, program))
            self.assertIn((above, below), rings_in(row, kind, program))
            self.assertLessEqual(parts(program), 400)
        return paper

    def test_by_hand(self):
        for row, kind, word in [
            ([], A, "none"), ([], ONE, "many"), ([], to(A, A), "many"), ([], to(A, A, A), "many"), (ROW, A, "endless"),
            ([], to(to(A, A), A, A), "endless"), ([], to(to(A, B), A), "none"), (ROW, B, "none"), (ROW, ONE, "many"),
            (ROW, both(A, B), "none"), (ROW, both(ONE, A), "endless"), (ROW[:1], A, "none"), (ROW, to(A, ONE), "many"),
            ([("f", to(A, A)), ("q", B)], B, "many"), ([("f", to(to(A, B), A)), ("g", to(A, B))], A, "endless"),
            ([("f", to(to(A, B), A)), ("p", A)], A, "many"), ([("f", to(to(B, B), A)), ("g", to(A, B))], A, "endless"),
            ([("f", to(A, C, A)), ("p", A)], A, "many"), ([("f", to(A, both(A, B))), ("p", A)], B, "endless"),
        ]:
            self.assertEqual(self.looked_at(row, kind)[0], word, shown_kind(kind))

    def test_the_table_of_a_row(self):
        row = [("f", to(A, A, B)), ("p", A), ("q", A), ("r", B)]
        paper = self.looked_at(row, both(B, A))
        self.assertEqual(told_many(paper[1]), 10)
        row = [("f", to(A, B)), ("g", to(C, B)), ("p", A)]
        self.assertEqual(told_by(row, B, self.looked_at(row, B)[1]), [give(F, P)])

    def test_each_kind_of_up_to_4_leaves_over_two_marks(self):
        words = {"none": 0, "many": 0, "endless": 0}
        for leaves in (1, 2, 3, 4):
            for kind in kinds_of_leaves(leaves, (A, B, ONE)):
                words[self.sort_looked_at([], kind)] += 1
        self.assertTrue(all(words.values()), words)

    def sort_looked_at(self, row, kind):
        """The sort of the paper, held against the programs of few names."""
        paper = self.looked_at(row, kind)
        few = longs_to(row, kind, 4)
        if paper[0] == "none":
            self.assertEqual(few, [])
        elif paper[0] == "many":
            self.assertLessEqual(set(few), set(told_by(row, kind, paper[1])))
            self.assertFalse(any(rings_in(row, kind, program) for program in few))
        return paper[0]

    def test_rows_with_given_names(self):
        words = {"none": 0, "many": 0, "endless": 0}
        for row, kind in random_rows(27, 500) + random_rows(270, 300, 12, (A, B)):
            if told(row, kind):
                words[self.sort_looked_at(row, kind)] += 1
        self.assertTrue(all(many > 100 for many in words.values()), words)

    def test_each_row_of_small_kinds(self):
        kinds = [kind for leaves in (1, 2) for kind in kinds_of_leaves(leaves, (A, B))] + [to(to(A, B), A), to(A, A, B)]
        for one in kinds:
            for other in kinds:
                for kind in (A, both(A, B), to(A, B)):
                    self.sort_looked_at([("p", one), ("q", other)], kind)

    def test_no_ring_is_smaller_than_the_one_told(self):
        seen = 0
        for row, kind in random_rows(271, 300, 9, (A, B)):
            paper = told(row, kind)
            if paper and paper[0] == "endless":
                for program in longs_to(row, kind, 5)[:400]:
                    if parts(program) < parts(paper[1]):
                        self.assertEqual(rings_in(row, kind, program), [])
                        seen += 1
        self.assertGreater(seen, 100)

    def test_large_rings(self):
        for texts, kind, fewest in LARGE:
            row, kind = row_of(texts), read_kind(kind)
            self.assertEqual(sum(leaves_of(given) for text, given in row) + leaves_of(kind), 12)
            if fewest <= 400:
                self.assertEqual(parts(self.looked_at(row, kind)[1]), fewest)
            else:
                with self.assertRaises(TooMany):
                    settled(row, kind)

    def test_400_parts_and_401(self):
        # A ring of 3 parts, beside what has 375 parts and what has 19, in two pairs; each take is one part more.
        row = [("f", to(A, A)), ("p", A), ("g", to(many_of(10, B), C)), ("h", to(many_of(17, C), D)), ("q", B)]
        kind = both(A, both(D, many_of(10, B)))
        for fewest in (399, 400, 401, 402):
            if fewest <= 400:
                self.assertEqual(parts(self.looked_at(row, kind)[1]), fewest)
            else:
                with self.assertRaises(TooMany):
                    settled(row, kind)
            kind = to(ONE, kind)

    def test_300_programs_and_301(self):
        row = [("q", many_of(20, A)), ("r", many_of(15, B)), ("f", to(A, B, C))]
        for given, many in (([], 300), (["c"], 301), (["c", "c"], 302)):
            whole = row + [("stuv"[at], read_kind(text)) for at, text in enumerate(given)]
            if many <= 300:
                paper = self.looked_at(whole, C)
                self.assertEqual((paper[0], told_many(paper[1])), ("many", 300))
                self.assertEqual(len(told_by(whole, C, paper[1])), 300)
            else:
                with self.assertRaises(TooMany):
                    settled(whole, C)

    def test_300_programs_of_up_to_12_leaves(self):
        for texts, kind in [(["( a * a )", "b", "a", "( a -> ( a -> b ) )"], "( b * ( a * b ) )"),
                            (["( a * ( ( a * a ) -> b ) )", "c", "a", "( a * b )", "c"], "( ( b * a ) * b )"),
                            (["a", "a", "( b * c )", "a", "( a -> ( ( c * a ) -> b ) )"], "( b * ( a * b ) )")]:
            paper = self.looked_at(row_of(texts), read_kind(kind))
            self.assertEqual((paper[0], told_many(paper[1])), ("many", 300))
        for texts, kind in [(["a", "a", "a", "a", "a", "a", "a"], "( a * ( a * a ) )"),
                            (["( a * a )", "b", "a", "( a -> ( a -> b ) )"], "( b * ( b * b ) )")]:
            with self.assertRaises(TooMany):
                settled(row_of(texts), read_kind(kind))

    def test_very_many_programs(self):
        row = [(text, many_of(3, A)) for text in "pqrs"]
        with self.assertRaises(TooMany):
            settled(row, both(many_of(6, A), many_of(6, A)))

    def test_no_tree_in_many_programs_that_are_none(self):
        row = [(text, A) for text in "pqrstuvw"]
        self.assertEqual(self.looked_at(row, both(A, both(A, both(A, B))))[0], "none")

    def test_told_lists_are_the_askers_own(self):
        for row, kind in random_rows(272, 200):
            paper = told(row, kind)
            if paper:
                kept = copy.deepcopy((row, kind, paper))
                lists = lists_in(paper)
                self.assertEqual(len({id(each) for each in lists}), len(lists))
                if paper[0] == "many":
                    programs = told_by(row, kind, paper[1])
                    programs.append(7)
                for each in lists:
                    each.append("changed")
                self.assertEqual((row, kind, settled(row, kind)), kept)


def many_of(many, kind):
    """A kind of pairs with one kind so often."""
    if many == 1:
        return kind
    return both(many_of(many // 2, kind), many_of(many - many // 2, kind))


def lists_in(thing):
    """All lists within a thing."""
    if isinstance(thing, (list, tuple)):
        told = [thing] if isinstance(thing, list) else []
        return told + [inner for each in thing for inner in lists_in(each)]
    return []


if __name__ == "__main__":
    unittest.main()
