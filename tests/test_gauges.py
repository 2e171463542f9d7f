"""Runs near the bounds [14], [17]: the same steps as by the words of the document, and how much is done for them."""

import unittest
from random import Random
from unittest import mock

from plainly import form_of, places_of, random_programs, step_at
from samples import A, B, THING, crown, fed, first, give, grove, name, pair, second, take, to, tower
from test_steps import ROW, SMALL, STEP, growing_to, of_steps

from kindfill.errors import TooLong
from kindfill.fitting import kind_of, tidied
from kindfill.gauges import Gauge, gauge_of, step_place, stepped_at
from kindfill.longs import LongMaker, long_form
from kindfill.places import step_places
from kindfill.programs import deep_of, parts_of
from kindfill.steps import run

P, Y = name("p"), name("y")
# A function from a to a; where it is given something three steps can be done.
SLOW = take("u", A, first(pair(first(pair(name("u"), THING)), THING)))


def numbers_in(program):
    """The numbers of the takes in a program, and of those whose names stand in it."""
    told = [int(program[1][1:])] if program[0] in ("name", "take") and program[1][1:].isdigit() else []
    return told + [number for inner in program[1:] if isinstance(inner, tuple) and program[0] != "name"
                   for number in numbers_in(inner)]


def evenly(things):
    """Pairs of all of these, not deep."""
    if len(things) == 1:
        return things[0]
    half = len(things) // 2
    return pair(evenly(things[:half]), evenly(things[half:]))


def slowly(given, more=()):
    """A program of so many things given to a slow function, and of more: one step, and three for each of these."""
    return give(take("f", to(A, A), evenly([give(name("f"), P)] * given + list(more))), SLOW)


def plain_run(program, picks=(0,)):
    """What comes of a program, step by step, by the words of the document."""
    program = tidied(program)
    log = []
    while places_of(program):
        places = places_of(program)
        log.append(places[picks[len(log) % len(picks)] % len(places)])
        program = step_at(program, log[-1])
    return program, log


class Gauges(unittest.TestCase):
    def looked_at(self, gauge, program):
        self.assertEqual(gauge.program, program)
        self.assertEqual((gauge.parts, gauge.deep), (parts_of(program), deep_of(program)))
        self.assertEqual(gauge.steps, len(step_places(program)))
        self.assertEqual(gauge.takes, 1 + max(numbers_in(program), default=-1))
        self.assertEqual([step_place(gauge, number) for number in range(gauge.steps)], step_places(program))

    def test_what_is_told_of_a_program(self):
        for program in SMALL:
            gauge = gauge_of(program)
            todo = [gauge]
            self.looked_at(gauge, tidied(program))
            while todo:
                part = todo.pop()
                self.looked_at(part, part.program)
                todo.extend(part.inner)

    def test_behind_each_step(self):
        random = Random(140)
        for program in SMALL + random_programs(141, 200, ROW, 200):
            gauge = gauge_of(program)
            for _ in range(40):
                if gauge.steps:
                    place = random.choice(step_places(gauge.program))
                    program = step_at(gauge.program, place)
                    ahead = gauge.program
                    told = stepped_at(gauge, place)
                    self.looked_at(told, program)
                    self.assertEqual(gauge.program, ahead)
                    gauge = told


class NearTheBounds(unittest.TestCase):
    def both_runs(self, program, picks):
        kind_of(ROW, program)
        told, log = run(program, picks)
        self.assertEqual((told, log), plain_run(program, picks or (0,)))
        return len(log)

    def test_199_steps_and_200(self):
        for program in (slowly(66, [STEP]), slowly(66), of_steps(200), slowly(66, [first(pair(P, P)), P, P])):
            for picks in (None, [10 ** 18, 1]):
                steps = self.both_runs(program, picks)
                self.assertIn(steps, (199, 200) if picks is None else range(60, 201))

    def test_201_steps_to_204(self):
        for program in (slowly(66, [STEP] * 2), slowly(67), slowly(67, [STEP, P]), of_steps(201), of_steps(204)):
            with self.assertRaises(TooLong):
                run(program)
            with self.assertRaises(TooLong):
                long_form(ROW, program)

    def test_where_takes_are_on_the_way(self):
        # What is put in has takes of its own, and stands further in than it stood.
        inner = take("n", B, pair(crown(20, take("o", A, give(name("v"), name("o")))), name("n")))
        given = take("k", A, first(pair(name("m"), name("k"))))
        program = take("m", A, give(take("v", to(A, A), inner), given))
        for picks in (None, [3, 10 ** 17, 2], [1]):
            self.both_runs(program, picks)
        self.assertEqual(long_form(ROW, program), form_of(ROW, program))

    def test_a_great_row_of_programs(self):
        # One of these took a fourth of a second once.
        for given in range(60, 68):
            for more in range(1, 12):
                program = slowly(given, [STEP, P] * more)
                steps = 1 + 3 * given + more
                if steps > 200:
                    self.assertRaises(TooLong, run, program)
                    self.assertRaises(TooLong, long_form, ROW, program)
                else:
                    self.assertEqual(len(run(program)[1]), steps)
                    self.assertEqual(long_form(ROW, program), run(program, [10 ** 18])[0])
        for parts in range(1490, 1503):
            for program in (growing_to(parts), give(take("y", A, crown(parts // 14, Y)), crown(7, P))):
                try:
                    told, log = run(program)
                    self.assertLessEqual(parts_of(told), 1500)
                except TooLong:
                    self.assertGreater(parts_of(step_at(program, [])), 1500)

    def gauges_made(self, program, picks=None):
        """How many gauges are made in a run."""
        made = []
        plain = Gauge.__init__

        def noted(self, *given):
            made.append(given)
            plain(self, *given)
        with mock.patch.object(Gauge, "__init__", noted):
            try:
                run(program, picks)
            except TooLong:
                pass
        return len(made)

    def test_a_step_makes_only_what_stands_on_the_way(self):
        program = slowly(66, [STEP] + [P] * 133)
        self.assertEqual(len(run(program)[1]), 200)
        parts = parts_of(program)
        # The program itself, what the first step puts in, and at most twelve parts ahead of each place.
        self.assertLess(self.gauges_made(program), 2 * parts + 66 + 200 * 12)
        self.assertLess(self.gauges_made(program, [10 ** 18]), 2 * parts + 66 * 4 + 200 * 12)
        self.assertLess(self.gauges_made(crown(200, STEP)), 999 + 200 * 10)
        self.assertLess(self.gauges_made(tower(60, crown(64, STEP))), 500 + 64 * 70)

    def test_what_is_put_in_often_is_not_made_often(self):
        for program in (give(take("y", A, crown(107, Y)), crown(7, P)), give(take("y", A, crown(19, Y)), fed(38, P)),
                        give(take("y", A, take("z", A, crown(107, Y))), grove(7)), growing_to(1500), growing_to(1501)):
            self.assertLess(self.gauges_made(program), 2 * parts_of(program))

    def test_a_form_is_not_made_often(self):
        counted = []
        plain = LongMaker.note_parts

        def noted(self, parts, depth):
            counted.append(parts)
            plain(self, parts, depth)
        row = ROW + [("m", to(A, A, A))]
        for given in (crown(7, P), take("w", A, P)):
            program = give(take("y", kind_of(row, given), crown(100, Y)), given)
            with mock.patch.object(LongMaker, "note_parts", noted):
                told = long_form(row, program)
            self.assertEqual(told, form_of(row, program))
        self.assertLess(len(counted), 500 + 300)

    def test_programs_that_are_very_deep(self):
        # No step: as it is. A step: too deep, but not where what is deep is gone behind it.
        deep = tower(3000, P)
        self.assertEqual(run(deep)[1], [])
        for program in (tower(3000, STEP), pair(STEP, deep), give(take("y", A, take("z", A, pair(Y, deep))), P),
                        give(take("y", A, take("z", A, Y)), fed(3000, P))):
            with self.assertRaises(TooLong):
                run(program)
            with self.assertRaises(TooLong):
                long_form(ROW, program)
        for program in (first(pair(P, deep)), second(pair(deep, P)), give(take("y", A, P), fed(3000, P))):
            self.assertEqual(run(program), (P, [[]]))
            self.assertEqual(long_form(ROW, program), P)


if __name__ == "__main__":
    unittest.main()
