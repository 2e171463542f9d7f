"""The places at which steps can be done [13]."""

import unittest

from samples import A, THING, first, give, halves, name, pair, programs_of_parts, second, take

from kindfill.places import step_places

P = name("p")
TAKE = take("y", A, name("y"))
PAIR = pair(P, THING)


class StepPlaces(unittest.TestCase):
    def test_each_form(self):
        self.assertEqual(step_places(give(TAKE, P)), [[]])
        self.assertEqual(step_places(first(PAIR)), [[]])
        self.assertEqual(step_places(second(PAIR)), [[]])

    def test_forms_at_which_none_can_be_done(self):
        for program in [P, THING, TAKE, PAIR, give(P, P), give(P, TAKE), first(P), second(P), give(PAIR, P), first(TAKE),
                        second(TAKE), give(first(P), P), first(first(P)), pair(TAKE, TAKE), give(P, PAIR),
                        first(THING), give(give(P, P), TAKE), take("y", A, TAKE)]:
            self.assertEqual(step_places(program), [])

    def test_within_other_parts(self):
        step = first(PAIR)
        for program, place in [(take("z", A, step), [0]), (give(step, P), [0]), (give(P, step), [1]),
                               (pair(step, P), [0]), (pair(P, step), [1]), (first(step), [0]), (second(step), [0]),
                               (pair(P, take("z", A, give(P, step))), [1, 0, 1])]:
            self.assertEqual(step_places(program), [place])

    def test_a_part_ahead_of_its_own_parts_each_followed_by_all_its_own(self):
        self.assertEqual(step_places(give(take("y", A, first(PAIR)), second(PAIR))), [[], [0, 0], [1]])
        self.assertEqual(step_places(first(pair(give(TAKE, P), give(TAKE, P)))), [[], [0, 0], [0, 1]])
        inner = first(pair(second(PAIR), first(PAIR)))
        self.assertEqual(step_places(pair(inner, give(TAKE, inner))),
                         [[0], [0, 0, 0], [0, 0, 1], [1], [1, 1], [1, 1, 0, 0], [1, 1, 0, 1]])
        self.assertEqual(step_places(second(pair(first(PAIR), second(pair(first(PAIR), P))))),
                         [[], [0, 0], [0, 1], [0, 1, 0, 0]])

    def test_all_small_programs(self):
        for parts in (1, 2, 3, 4, 5, 6):
            for program in programs_of_parts(parts, [P], [("y", A)]):
                self.assertEqual(step_places(program), plain_places(program, []))

    def test_far_beyond_the_bounds(self):
        self.assertEqual(step_places(halves(3000)), [])
        self.assertEqual(step_places(halves(1500, first(PAIR))), [[0] * 1500])

    def test_told_lists_are_the_askers_own(self):
        program = first(pair(first(PAIR), second(PAIR)))
        told = step_places(program)
        for place in told:
            place.append(7)
        told.append([])
        self.assertEqual(step_places(program), [[], [0, 0], [0, 1]])
        self.assertEqual(told, [[7], [0, 0, 7], [0, 1, 7], []])


def plain_places(program, place):
    """The places, by the words of the document."""
    told = []
    if program[0] == "give" and program[1][0] == "take":
        told.append(place)
    if program[0] in ("first", "second") and program[1][0] == "pair":
        told.append(place)
    if program[0] == "take":
        return plain_places(program[3], place + [0])
    if program[0] != "name":
        for step, inner in enumerate(program[1:]):
            told += plain_places(inner, place + [step])
    return told


if __name__ == "__main__":
    unittest.main()
