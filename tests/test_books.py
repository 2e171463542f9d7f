"""The book of a row and a kind [19], [20]."""

import unittest

from plainly import random_rows
from samples import A, B, ONE, both, kinds_of_leaves, to

from kindfill.books import book_of
from kindfill.kinds import ends_of, ways_of
from kindfill.kindtexts import read_kind, shown_kind


def plain_book(row, kind):
    """The book, by the words of the document."""
    there = frozenset(shown_kind(given) for text, given in row)
    starts, rooms, rows = [], [], []

    def numbers_of(there, kinds):
        told = []
        for each in kinds:
            for taken, mark in ends_of(each):
                room = (tuple(sorted(there | {shown_kind(given) for given in taken})), mark)
                if room not in rooms:
                    rooms.append(room)
                told.append(rooms.index(room))
        return told

    starts = numbers_of(there, [kind])
    for kinds, mark in rooms:
        told = []
        for text in kinds:
            for way, (moves, end) in enumerate(ways_of(read_kind(text))):
                if end == mark:
                    told.append((text, way, numbers_of(frozenset(kinds), [each for each in moves if each not in (1, 2)])))
        rows.append(told)
    return starts, rooms, rows


class BookOf(unittest.TestCase):
    def book(self, given, kind):
        row = [("pqrstuvw"[at], read_kind(text)) for at, text in enumerate(given)]
        return book_of(row, read_kind(kind))

    def test_kinds_without_ends(self):
        for kind in ("1", "( 1 * 1 )", "( a -> 1 )", "( ( a * b ) -> ( 1 * ( b -> 1 ) ) )"):
            self.assertEqual(self.book([], kind), ([], [], []))
            self.assertEqual(self.book(["a", "( a -> b )"], kind), ([], [], []))

    def test_one_end(self):
        self.assertEqual(self.book([], "a"), ([0], [((), "a")], [[]]))
        self.assertEqual(self.book(["a"], "a"), ([0], [(("a",), "a")], [[("a", 0, [])]]))
        self.assertEqual(self.book([], "( a -> a )"), ([0], [(("a",), "a")], [[("a", 0, [])]]))
        self.assertEqual(self.book(["b"], "( a -> ( c -> b ) )"), ([0], [(("a", "b", "c"), "b")], [[("b", 0, [])]]))
        self.assertEqual(self.book(["1"], "a"), ([0], [(("1",), "a")], [[]]))

    def test_several_ends(self):
        self.assertEqual(self.book(["a"], "( a * ( b * a ) )"),
                         ([0, 1, 0], [(("a",), "a"), (("a",), "b")], [[("a", 0, [])], []]))
        self.assertEqual(self.book([], "( ( a -> b ) * ( b -> ( a * b ) ) )"),
                         ([0, 1, 2], [(("a",), "b"), (("b",), "a"), (("b",), "b")], [[], [], [("b", 0, [])]]))

    def test_rows_of_each_kind_and_way(self):
        self.assertEqual(
            self.book(["b", "( a * ( b * a ) )", "( b -> a )", "( b -> ( a * ( 1 -> a ) ) )"], "a"),
            ([0], [(("( a * ( b * a ) )", "( b -> ( a * ( 1 -> a ) ) )", "( b -> a )", "b"), "a"),
                   (("( a * ( b * a ) )", "( b -> ( a * ( 1 -> a ) ) )", "( b -> a )", "b"), "b")],
             [[("( a * ( b * a ) )", 0, []), ("( a * ( b * a ) )", 2, []), ("( b -> ( a * ( 1 -> a ) ) )", 0, [1]),
               ("( b -> ( a * ( 1 -> a ) ) )", 1, [1]), ("( b -> a )", 0, [1])],
              [("( a * ( b * a ) )", 1, []), ("b", 0, [])]]))

    def test_a_kind_that_several_names_have_stands_once(self):
        self.assertEqual(self.book(["a", "a"], "( a -> ( a -> a ) )"), ([0], [(("a",), "a")], [[("a", 0, [])]]))
        self.assertEqual(self.book(["( a -> b )", "( a -> b )"], "b"),
                         ([0], [(("( a -> b )",), "b"), (("( a -> b )",), "a")], [[("( a -> b )", 0, [1])], []]))

    def test_a_room_that_leads_back_to_itself(self):
        self.assertEqual(self.book(["( a -> a )"], "a"), ([0], [(("( a -> a )",), "a")], [[("( a -> a )", 0, [0])]]))
        self.assertEqual(self.book(["( ( a -> a ) -> a )"], "( a -> a )"),
                         ([0], [(("( ( a -> a ) -> a )", "a"), "a")],
                          [[("( ( a -> a ) -> a )", 0, [0]), ("a", 0, [])]]))

    def test_what_is_taken_is_put_in(self):
        self.assertEqual(
            self.book(["( ( b -> a ) -> a )"], "a"),
            ([0], [(("( ( b -> a ) -> a )",), "a"), (("( ( b -> a ) -> a )", "b"), "a")],
             [[("( ( b -> a ) -> a )", 0, [1])], [("( ( b -> a ) -> a )", 0, [1])]]))
        starts, rooms, rows = self.book(["( ( a -> ( b -> ( a * c ) ) ) -> ( c -> c ) )"], "c")
        text = "( ( a -> ( b -> ( a * c ) ) ) -> ( c -> c ) )"
        self.assertEqual(rooms, [((text,), "c"), ((text, "a", "b"), "a"), ((text, "a", "b"), "c")])
        self.assertEqual(rows, [[(text, 0, [1, 2, 0])], [("a", 0, [])], [(text, 0, [1, 2, 2])]])

    def test_rooms_as_they_come(self):
        starts, rooms, rows = self.book(["( b -> ( c -> a ) )", "( d -> b )", "( a -> c )", "d"], "( a * ( d * a ) )")
        self.assertEqual([mark for kinds, mark in rooms], ["a", "d", "b", "c"])
        self.assertEqual(starts, [0, 1, 0])
        self.assertEqual([[inner for text, way, inner in told] for told in rows], [[[2, 3]], [[]], [[1]], [[0]]])
        starts, rooms, rows = self.book(["( b -> a )", "( c -> b )", "( d -> a )"], "a")
        self.assertEqual([mark for kinds, mark in rooms], ["a", "b", "d", "c"])

    def test_texts_are_sorted_as_texts(self):
        starts, rooms, rows = self.book(["z", "( a * b )", "1", "( a -> b )", "ab", "aa"], "b")
        self.assertEqual(rooms, [(("( a * b )", "( a -> b )", "1", "aa", "ab", "z"), "b"),
                                 (("( a * b )", "( a -> b )", "1", "aa", "ab", "z"), "a")])

    def test_all_small_kinds(self):
        for leaves in (1, 2, 3, 4):
            for kind in kinds_of_leaves(leaves, (A, B, ONE)):
                self.assertEqual(book_of([], kind), plain_book([], kind))

    def test_rows_of_up_to_12_leaves(self):
        for row, kind in random_rows(20, 500):
            told = book_of(row, kind)
            self.assertEqual(told, plain_book(row, kind))
            self.assertEqual(len(set(told[1])), len(told[1]))
            self.assertEqual(len(told[1]), len(told[2]))

    def test_many_rooms(self):
        kind = read_kind("( ( ( ( a -> b ) * ( ( e * ( c -> b ) ) * ( d -> b ) ) ) -> ( a -> b ) ) -> ( b * ( b -> b ) ) )")
        told = book_of([], kind)
        self.assertEqual(told, plain_book([], kind))
        self.assertGreaterEqual(len(told[1]), 40)

    def test_told_lists_are_the_askers_own(self):
        row = [("p", to(both(A, A), A)), ("q", A)]
        told = book_of(row, both(A, A))
        starts, rooms, rows = told
        lists = [starts, rooms, rows, *rows, *[inner for each in rows for text, way, inner in each]]
        self.assertEqual(len({id(each) for each in lists}), len(lists))
        again = book_of(row, both(A, A))
        for each in lists:
            each.append(7)
        self.assertEqual(book_of(row, both(A, A)), again)
        self.assertEqual(row, [("p", to(both(A, A), A)), ("q", A)])


if __name__ == "__main__":
    unittest.main()
