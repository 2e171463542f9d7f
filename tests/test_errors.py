"""The refusals."""

import unittest

from kindfill import errors

PLAIN = ["NoKind", "NoText", "NoStep", "TooLong", "TooMany", "NoLong", "NoNumber", "NoRow", "NoName",
         "Twice", "Used", "NoGap", "NoTree", "NoUndo"]
SIXTEEN = PLAIN + ["NoFit", "NoMaking"]


class Refusals(unittest.TestCase):
    def test_each_is_a_kind_error_and_none_of_the_others(self):
        self.assertEqual(len(set(SIXTEEN)), 16)
        self.assertTrue(issubclass(errors.KindError, ValueError))
        for one in SIXTEEN:
            refusal = getattr(errors, one)("text")
            self.assertIsInstance(refusal, errors.KindError)
            self.assertIsInstance(refusal, ValueError)
            for other in SIXTEEN:
                if other != one:
                    self.assertNotIsInstance(refusal, getattr(errors, other))

    def test_there_are_no_more(self):
        told = [each for each in vars(errors).values() if isinstance(each, type)]
        self.assertEqual(sorted(each.__name__ for each in told), sorted(SIXTEEN + ["KindError"]))

    def test_those_of_a_text_have_it(self):
        for one in PLAIN + ["KindError"]:
            self.assertEqual(str(getattr(errors, one)("some words")), "some words")

    def test_the_fields_are_what_was_handed_in(self):
        for place in ([], [0], [1, 0, 0]):
            self.assertEqual(errors.NoFit(place).place, list(place))
        for at in (0, 1, 10 ** 20):
            self.assertEqual(errors.NoMaking(at).at, at)

    def test_they_can_be_caught(self):
        for one in SIXTEEN:
            with self.assertRaises(errors.KindError):
                raise getattr(errors, one)([])


if __name__ == "__main__":
    unittest.main()
