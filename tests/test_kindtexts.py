"""The texts of kinds [6]."""

import unittest
from itertools import product

from samples import A, B, C, ONE, bent, both, bush, chain, kinds_of_leaves, to

from kindfill.errors import NoKind
from kindfill.kinds import is_kind
from kindfill.kindtexts import read_kind, shown_kind

TEXTS = [
    ("a", A), ("abcdef", ("mark", "abcdef")), ("x", ("mark", "x")), ("1", ONE),
    ("( a -> b )", to(A, B)), ("( a * b )", both(A, B)), ("( 1 -> 1 )", to(ONE, ONE)),
    ("( a -> ( b -> c ) )", to(A, B, C)), ("( ( a -> b ) -> c )", to(to(A, B), C)),
    ("( ( a * 1 ) -> ( b * ( a -> c ) ) )", to(both(A, ONE), both(B, to(A, C)))),
]
BAD = [
    "", " ", "  ", "a ", " a", "a b", "a  b", "\ta", "a\n", "a\t", "\n", "A", "abcdefg", "x0", "x1", "a1", "0", "2", "11",
    "( a )", "( 1 )", "()", "( )", "(", ")", "->", "*", "a -> b", "a * b", "( a -> b", "a -> b )", "(a -> b)",
    "( a->b )", "( a  -> b )", "( a ->  b )", "( a -> b ) ", " ( a -> b )", "( a -> b ) )", "( ( a -> b )",
    "( ( a -> b ) )", "( a -> )", "( -> b )", "( a b )", "( a -> b -> c )", "( a * b * c )", "( a -> b * c )",
    "( a -> -> b )", "( a => b )", "( a , b )", "( a > b )", "( a - b )", "( a + b )", "{ a * b }", "[ a ]", "#",
    "( a\t-> b )", "( a\n-> b )", "( a -> b )\n", "( a -> b ) c", "a ( b -> c )", "( A -> b )", "( a -> 2 )",
    "( a -> abcdefg )", "( ( a * b ) ( a * b ) )", ") a -> b (", "mark a ", "( to a b )", "None",
]


class Shown(unittest.TestCase):
    def test_each_form(self):
        for text, kind in TEXTS:
            self.assertEqual(shown_kind(kind), text)

    def test_beyond_the_bounds(self):
        self.assertEqual(shown_kind(to(bush(1), chain(13))), "( a -> " * 14 + "b" + " )" * 14)
        self.assertEqual(shown_kind(bush(30)).count("a"), 30)
        self.assertEqual(shown_kind(chain(3000)), "( a -> " * 3000 + "b" + " )" * 3000)


class Read(unittest.TestCase):
    def test_each_form(self):
        for text, kind in TEXTS:
            self.assertEqual(read_kind(text), kind)

    def test_all_small_kinds(self):
        for leaves in (1, 2, 3):
            for kind in kinds_of_leaves(leaves):
                self.assertEqual(read_kind(shown_kind(kind)), kind)

    def test_bad_texts(self):
        for text in BAD:
            with self.assertRaises(NoKind, msg=repr(text)):
                read_kind(text)

    def test_all_short_rows_of_words(self):
        told = {shown_kind(kind) for leaves in (1, 2) for kind in kinds_of_leaves(leaves, (A, ONE))}
        read = set()
        for many in range(6):
            for words in product(("a", "1", "(", ")", "->", "*", ""), repeat=many):
                read |= read_or_none(" ".join(words))
        self.assertEqual(read, told)

    def test_bent_texts(self):
        others = ["(", ")", "->", "*", "a", "1", "", "x1", "=>"]
        for text, kind in TEXTS:
            for words in bent(text.split(" "), others):
                read_or_none(" ".join(words))

    def test_the_bounds(self):
        for kind in (bush(24), chain(12), to(bush(12), bush(12))):
            self.assertEqual(read_kind(shown_kind(kind)), kind)
        for kind in (bush(25), chain(13), to(bush(12), bush(13)), bush(200), chain(400)):
            with self.assertRaises(NoKind):
                read_kind(shown_kind(kind))

    def test_long_texts(self):
        for text in ("( " * 3000, "( " * 2999 + "a", "a" * 6000, " " * 6000, ") " * 3000, "( a -> " * 850 + "a",
                     "a -> " * 1200, "1 " * 3000):
            with self.assertRaises(NoKind):
                read_kind(text)


def read_or_none(text):
    """The text, where a kind is read from it, and that it is the kind's own text; else nothing."""
    try:
        kind = read_kind(text)
    except NoKind:
        return set()
    if not is_kind(kind) or shown_kind(kind) != text:
        raise AssertionError(text)
    return {text}


if __name__ == "__main__":
    unittest.main()
