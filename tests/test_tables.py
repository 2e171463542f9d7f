"""Tables [24]."""

import copy
import unittest

from plainly import bars_plainly, is_plain_long, longs_to, programs_in_table, random_rows
from samples import A, B, C, ONE, THING, Rude, both, first, give, name, pair, second, take, to
from test_worlds import LEAF, NO_TREES

from kindfill.errors import TooMany
from kindfill.kinds import ends_of, ways_of
from kindfill.settling import settled
from kindfill.tables import is_table, told_by, told_many
from kindfill.worlds import is_tree

P, Q, R, F = [name(text) for text in "pqrf"]
X0, X1 = name("x0"), name("x1")
D = ("mark", "d")
MADE = ("made", [])
NO_LISTS = [None, True, 0, "", "made", (), {}, set(), Rude()]


def barred(number, tree=LEAF):
    return ("barred", number, tree)


def is_plain_table(scope, kind, thing, deep=1):
    """Whether a thing is a table, by the words of the document; scope: the kinds that are there."""
    if deep > 40 or not isinstance(thing, list) or len(thing) != len(ends_of(kind)):
        return False
    for (taken, mark), leaf in zip(ends_of(kind), thing):
        there = [*scope, *taken]
        ways = [[move for move in moves if isinstance(move, tuple)]
                for given in there for moves, end in ways_of(given) if end == mark]
        if not isinstance(leaf, list) or len(leaf) != len(ways):
            return False
        if not all(is_plain_entry(there, kinds, entry, deep) for kinds, entry in zip(ways, leaf)):
            return False
    return True


def is_plain_entry(there, kinds, entry, deep):
    if not isinstance(entry, tuple) or not entry:
        return False
    if isinstance(entry[0], str) and entry[0] == "made" and len(entry) == 2:
        return (isinstance(entry[1], list) and len(entry[1]) == len(kinds)
                and all(is_plain_table(there, kind, table, deep + 1) for kind, table in zip(kinds, entry[1])))
    if isinstance(entry[0], str) and entry[0] == "barred" and len(entry) == 3:
        number, tree = entry[1:]
        if isinstance(number, bool) or not isinstance(number, int) or not 0 <= number < len(kinds):
            return False
        return is_tree(tree) and bars_plainly([("", given) for given in there], kinds[number], tree)
    return False


def tables_told(seed, many):
    """Rows, kinds and their tables, of those that have just so many programs."""
    told = []
    for row, kind in random_rows(seed, many):
        try:
            paper = settled(row, kind)
        except TooMany:
            continue
        if paper[0] == "many":
            told.append((row, kind, paper[1]))
    return told


def bent(table):
    """Tables that come of one by something changed in one place."""
    told = [table + [[]], table[:-1], [[]] + table, table[::-1]]
    for at, leaf in enumerate(table):
        told += [table[:at] + [other] + table[at + 1:] for other in bent_leaf(leaf)]
    return told


def bent_leaf(leaf):
    told = [leaf + [MADE], leaf[:-1], leaf[1:], leaf[::-1], [barred(0)] + leaf, tuple(leaf)]
    for at, entry in enumerate(leaf):
        others = [MADE, barred(0), barred(1), barred(0, ([], [(["a"], [])])), barred(False), ("many", entry[1]), entry[:-1],
                  (*entry, []), list(entry)]
        if entry[0] == "made":
            others += [("made", other) for other in [entry[1] + [[]], entry[1][:-1], entry[1][::-1], tuple(entry[1])]]
            for number, table in enumerate(entry[1]):
                others += [("made", entry[1][:number] + [each] + entry[1][number + 1:]) for each in bent(table)]
        else:
            others += [barred(entry[1] + 1, entry[2]), barred(entry[1] - 1, entry[2]), barred(True, entry[2])]
            others += [("made", [[]]), ("made", [[[]]]), barred(entry[1], (["a"], [entry[2]]))]
        told += [leaf[:at] + [other] + leaf[at + 1:] for other in others]
    return told


class IsTable(unittest.TestCase):
    def table(self, row, kind, thing, many):
        self.assertIs(is_table(row, kind, thing), True)
        self.assertTrue(is_plain_table([given for text, given in row], kind, thing))
        self.assertEqual(told_many(thing), many)
        self.assertEqual(told_by(row, kind, thing), programs_in_table(row, kind, thing))

    def no_table(self, row, kind, *things):
        for thing in things:
            self.assertIs(is_table(row, kind, thing), False, thing)

    def test_without_leaves(self):
        for kind in (ONE, both(ONE, ONE), to(A, ONE)):
            self.table([], kind, [], 1)
            self.table([("p", A)], kind, [], 1)
            self.no_table([], kind, [[]], [[MADE]], *NO_LISTS)

    def test_one_leaf(self):
        self.table([], A, [[]], 0)
        self.table([("p", B)], A, [[]], 0)
        self.table([("p", A)], A, [[MADE]], 1)
        self.table([("p", A), ("r", B), ("q", A)], A, [[MADE, MADE]], 2)
        self.table([("q", both(A, both(B, A)))], A, [[MADE, MADE]], 2)
        self.table([], to(A, A, A), [[MADE, MADE]], 2)
        self.table([("p", A)], to(A, A), [[MADE, MADE]], 2)
        self.no_table([], A, [], [[], []], [[MADE]], *NO_LISTS, *[[thing] for thing in NO_LISTS])
        self.no_table([("p", A)], A, [], [[]], [MADE], [[MADE, MADE]], [[MADE], []], [(MADE,)], ([MADE],), [[[MADE]]])

    def test_several_leaves(self):
        row = [("p", A), ("q", A)]
        self.table(row, both(A, both(A, A)), [[MADE, MADE]] * 3, 8)
        self.table(row, both(A, B), [[MADE, MADE], []], 0)
        self.table([], both(to(A, A), to(A, B)), [[MADE], []], 0)
        self.table([("p", A)], to(B, both(A, both(B, ONE))), [[MADE], [MADE]], 1)
        self.no_table(row, both(A, B), [[], [MADE, MADE]], [[MADE, MADE]], [[MADE, MADE], [], []])

    def test_made_entries(self):
        row = [("f", to(A, B)), ("p", A), ("q", A)]
        self.table(row, B, [[("made", [[[MADE, MADE]]])]], 2)
        self.table([("f", to(A, B, C)), ("p", A), ("q", B)], C, [[("made", [[[MADE]], [[MADE]]])]], 1)
        self.table([("f", to(ONE, A))], A, [[("made", [[]])]], 1)
        self.table([("f", to(to(A, A), B))], B, [[("made", [[[MADE]]])]], 1)
        self.table([("f", to(both(A, B), C)), ("p", A), ("q", B)], C, [[("made", [[[MADE], [MADE]]])]], 1)
        self.no_table(row, B, [[MADE]], [[("made", [[[MADE]]])]], [[("made", [[[MADE, MADE]], []])]],
                      [[("made", [[[MADE, MADE], []]])]], [[("made", [[]])]], [[("made", [[MADE, MADE]])]],
                      [[("made", ([[MADE, MADE]],))]], [[("made",)]], [[("made", [[[MADE, MADE]]], [])]],
                      [[["made", [[[MADE, MADE]]]]]], *[[[("made", thing)]] for thing in NO_LISTS],
                      *[[[("made", [thing])]] for thing in NO_LISTS], *[[[("made", [[thing]])]] for thing in NO_LISTS])

    def test_a_made_entry_one_of_whose_tables_tells_none(self):
        self.table([("f", to(A, B))], B, [[("made", [[[]]])]], 0)
        self.table([("f", to(A, C, B)), ("p", C), ("q", B)], B, [[("made", [[[]], [[MADE]]]), MADE]], 1)

    def test_barred_entries(self):
        self.table([("f", to(A, B))], B, [[barred(0)]], 0)
        self.table([("f", to(A, B))], B, [[barred(0, ([], [(["a", "b"], [])]))]], 0)
        self.table([("f", to(A, B)), ("q", B)], B, [[barred(0, (["b"], [])), MADE]], 1)
        self.table([("f", to(C, A, B)), ("p", C)], B, [[barred(1, (["c"], []))]], 0)
        self.no_table([("f", to(A, B))], B, [[barred(1)]], [[barred(-1)]], [[barred(10 ** 20)]], [[barred(None)]],
                      [[barred("0")]], [[barred(True)]], [[barred(False)]], [[barred([])]], [[barred(Rude())]], [[("barred", 0)]],
                      [[("barred",)]], [[("barred", 0, LEAF, LEAF)]], [[["barred", 0, LEAF]]], [[("barred", LEAF, 0)]],
                      [[("barred", LEAF)]], [[("barred", [])]])
        self.no_table([("f", to(C, A, B)), ("p", C)], B, [[barred(0, (["c"], []))]], [[barred(2, (["c"], []))]])

    def test_a_way_without_kinds_cannot_be_barred(self):
        self.no_table([("p", A)], A, [[barred(0)]], [[barred(0, (["a"], []))]], [[barred(-1)]])

    def test_numbers_count_the_kinds_alone(self):
        # The moves to the first a: 1, ("one",), 2, c, 1. So c is the kind with the number 1.
        row = [("m", both(to(ONE, both(B, to(C, both(A, B)))), A))]
        tree = (["a", "b"], [])
        self.table(row, both(A, C), [[barred(1, tree), MADE], []], 0)
        self.no_table(row, both(A, C), [[barred(0, tree), MADE], []], [[barred(2, tree), MADE], []],
                      [[barred(3, tree), MADE], []], [[barred(4, tree), MADE], []])

    def test_a_tree_that_does_not_bar(self):
        row = [("f", to(A, B)), ("g", to(C, B)), ("q", C)]
        good = barred(0, (["b", "c"], []))
        made = ("made", [[[MADE]]])
        self.table(row, B, [[good, made]], 1)
        for tree in [(["a", "b", "c"], []), LEAF, (["c"], []), (["b"], []), (["b", "c"], [(["b"], [])]), *NO_TREES]:
            self.no_table(row, B, [[barred(0, tree), made]])
        self.no_table(row, B, [[made, good]], [[good, good]], [[made, made]])

    def test_by_what_is_there_with_what_the_end_takes(self):
        kind = to(to(A, B), B)
        self.table([], kind, [[barred(0)]], 0)
        self.no_table([], kind, [[barred(0, ([], [(["a"], [])]))]], [[barred(0, (["a", "b"], []))]])
        self.table([], to(to(A, B), A, B), [[("made", [[[MADE]]])]], 1)
        self.table([], to(C, to(C, B), B), [[("made", [[[MADE]]])]], 1)
        self.no_table([], to(C, to(C, B), B), [[barred(0)]], [[barred(0, (["c"], []))]])
        self.table([], to(C, to(A, B), B), [[barred(0, (["b", "c"], []))]], 0)
        self.no_table([], to(C, to(A, B), B), [[barred(0, (["b"], []))]], [[barred(0)]])

    def test_the_names_that_the_end_takes_come_behind(self):
        made = ("made", [[[MADE]]])
        self.table([("f", to(B, A)), ("q", B)], to(A, A), [[made, MADE]], 2)
        self.no_table([("f", to(B, A)), ("q", B)], to(A, A), [[MADE, made]])
        self.table([("p", A)], to(to(B, A), B, A), [[MADE, made]], 2)

    def test_40_tables_deep_and_41(self):
        row = [("f", to(A, A))]
        table = [[barred(0)]]
        for deep in range(2, 45):
            table = [[("made", [table])]]
            self.assertIs(is_table(row, A, table), deep <= 40, deep)
            if deep <= 40:
                self.assertEqual(told_many(table), 0)
                self.assertEqual(told_by(row, A, table), [])

    def test_things_within_themselves(self):
        tables = []
        table = [[("made", tables)]]
        tables.append(table)
        self.assertIs(is_table([("f", to(A, A))], A, table), False)
        tables.append(table)
        self.assertIs(is_table([("f", to(A, A, A))], A, table), False)
        leaf = []
        leaf.append(leaf)
        self.no_table([("f", to(A, A))], A, leaf, [leaf])

    def test_entries_that_are_none(self):
        for thing in [*NO_LISTS, (None, []), (True, []), ("", []), ("Made", []), ("made ", []), (b"made", []), (["made"], []),
                      (Rude(), []), (Rude(), 0, LEAF), (0, 0, LEAF), ("bar", 0, LEAF), (("made", []),), ("made", [], [])]:
            self.no_table([("p", A)], A, [[thing]])
            self.no_table([("f", to(A, B)), ("p", A)], B, [[("made", [[[thing]]])]], [[thing]])

    def test_those_told_and_those_bent_in_one_place(self):
        seen = 0
        for row, kind, table in tables_told(24, 300):
            scope = [given for text, given in row]
            self.assertTrue(is_plain_table(scope, kind, table))
            self.assertIs(is_table(row, kind, table), True)
            for other in bent(table):
                told = is_plain_table(scope, kind, other)
                self.assertIs(is_table(row, kind, other), told)
                seen += not told
        self.assertGreater(seen, 1000)

    def test_by_another_row_or_kind(self):
        self.no_table([("p", B)], A, [[MADE]])
        self.no_table([], A, [[MADE]])
        self.no_table([("p", A)], B, [[MADE]])
        self.no_table([("p", A)], both(A, A), [[MADE]])

    def test_nothing_handed_in_is_changed(self):
        for row, kind, table in tables_told(240, 30):
            kept = copy.deepcopy((row, kind, table))
            is_table(row, kind, table)
            told_many(table)
            told_by(row, kind, table).append(7)
            self.assertEqual((row, kind, table), kept)


class Told(unittest.TestCase):
    def test_the_order(self):
        row = [("p", A), ("q", A)]
        two = [MADE, MADE]
        self.assertEqual(told_by(row, both(A, A), [two, two]), [pair(P, P), pair(P, Q), pair(Q, P), pair(Q, Q)])
        self.assertEqual(told_by(row, both(A, both(A, A)), [two] * 3),
                         [pair(one, pair(two, three)) for one in (P, Q) for two in (P, Q) for three in (P, Q)])
        row = [("f", to(A, A, B)), ("p", A), ("q", A), ("r", B)]
        self.assertEqual(told_by(row, B, [[("made", [[two], [two]]), MADE]]),
                         [give(F, P, P), give(F, P, Q), give(F, Q, P), give(F, Q, Q), R])

    def test_several_that_are_given(self):
        table = [[("made", [[[MADE]], [[MADE, MADE]], [[MADE]]])]]
        row = [("f", to(A, B, C, D)), ("p", A), ("q", B), ("s", B), ("r", C)]
        self.assertIs(is_table(row, D, table), True)
        self.assertEqual(told_by(row, D, table), [give(F, P, Q, R), give(F, P, name("s"), R)])

    def test_the_programs(self):
        self.assertEqual(told_by([], ONE, []), [THING])
        self.assertEqual(told_by([], to(A, both(ONE, A)), [[MADE]]), [take("x0", A, pair(THING, X0))])
        self.assertEqual(told_by([("q", both(A, to(ONE, both(A, A))))], A, [[MADE, ("made", [[]]), ("made", [[]])]]),
                         [first(Q), first(give(second(Q), THING)), second(give(second(Q), THING))])
        self.assertEqual(told_by([("f", to(to(A, A), B))], to(A, B), [[("made", [[[MADE, MADE]]])]]),
                         [take("x0", A, give(F, take("x1", A, X0))), take("x0", A, give(F, take("x1", A, X1)))])
        self.assertEqual(told_by([], both(to(A, A), to(A, B, A)), [[MADE], [MADE]]),
                         [pair(take("x0", A, X0), take("x0", A, take("x1", B, X0)))])

    def test_none(self):
        self.assertEqual(told_by([], A, [[]]), [])
        self.assertEqual(told_by([("f", to(A, B))], B, [[barred(0)]]), [])
        self.assertEqual(told_by([("p", A), ("q", A)], both(A, B), [[MADE, MADE], []]), [])

    def test_very_many_beside_none(self):
        # Nothing is put together that none of the programs told would have in it.
        row = [(text, A) for text in "pqrstuv"]
        kind = A
        for _ in range(4):
            kind = both(kind, kind)
        kind = both(kind, B)
        table = [[MADE] * 7] * 16 + [[]]
        self.assertIs(is_table(row, kind, table), True)
        self.assertEqual(told_many(table), 0)
        self.assertEqual(told_by(row, kind, table), [])
        row = row + [("f", to(kind, C))]
        self.assertEqual(told_by(row, C, [[("made", [table])]]), [])

    def test_how_many(self):
        row = [(text, A) for text in "pqrstuvw"]
        kind, many = A, 8
        for _ in range(4):
            kind, many = both(kind, kind), many * many
        self.assertEqual(told_many([[MADE] * 8] * 16), many)
        self.assertIs(is_table(row, kind, [[MADE] * 8] * 16), True)

    def test_all_plain_long_programs_each_once(self):
        for row, kind, table in tables_told(241, 300):
            told = told_by(row, kind, table)
            self.assertEqual(told, programs_in_table(row, kind, table))
            self.assertEqual(len(told), told_many(table))
            self.assertTrue(all(is_plain_long(row, kind, program) for program in told))
            self.assertEqual(len(set(told)), len(told))
            self.assertLessEqual(set(longs_to(row, kind, 4)), set(told))

    def test_tables_with_more_barred_than_wanted(self):
        row = [("f", to(A, B, C)), ("q", B), ("r", C)]
        tree = (["b", "c"], [])
        for entry in (barred(0, tree), ("made", [[[]], [[MADE]]])):
            self.assertIs(is_table(row, C, [[entry, MADE]]), True)
            self.assertEqual(told_by(row, C, [[entry, MADE]]), [R])


if __name__ == "__main__":
    unittest.main()
