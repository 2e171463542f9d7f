"""Marks [5] and names [8]."""

import unittest

from samples import Rude

from kindfill.words import is_mark, is_name

NEITHER = ["", "abcdefg", "A", "aB", "a1", "1", "a b", " a", "a ", "a\n", "\ta", "a_", "-", "`", "{", "@",
           "\u00e9", "\u00aa", "\u0430", "a\u0301"]
NO_TEXTS = [None, True, False, 0, 7, b"a", ("a",), ["a"], {"a": 1}, Rude()]


class Marks(unittest.TestCase):
    def test_one_to_six_small_letters(self):
        for text in ["a", "z", "m", "ab", "x", "xyz", "abcdef", "zzzzzz"]:
            self.assertIs(is_mark(text), True, text)

    def test_all_else_is_none(self):
        for text in NEITHER + ["x0", "x99", "x07", "->", "1", "#"]:
            self.assertIs(is_mark(text), False, text)

    def test_what_is_no_text_is_none(self):
        for thing in NO_TEXTS:
            self.assertIs(is_mark(thing), False)


class Names(unittest.TestCase):
    def test_small_letters(self):
        for text in ["a", "x", "xx", "xa", "xyzxyz", "abcdef"]:
            self.assertIs(is_name(text), True, text)

    def test_each_number_from_0_to_99(self):
        for number in range(100):
            self.assertIs(is_name("x" + str(number)), True, number)

    def test_other_numbers_and_forms(self):
        for text in ["x100", "x999", "x00", "x01", "x07", "x000", "x-1", "x+1", "x 1", "x1 ", "x1a", "xa1", "xx1",
                     "y0", "y1", "0", "0x", "1x", "X1", "x1.", "x_1", "x1\n", "x\u0661", "x\u00b2", "x1\u0661"]:
            self.assertIs(is_name(text), False, text)

    def test_what_is_no_mark_is_none(self):
        for text in NEITHER + ["#", "(", ":", "=>", ".1"]:
            self.assertIs(is_name(text), False, text)

    def test_what_is_no_text_is_none(self):
        for thing in NO_TEXTS:
            self.assertIs(is_name(thing), False)


if __name__ == "__main__":
    unittest.main()
