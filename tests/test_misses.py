"""Stage 4: misses [1, 11, 12]."""

import copy
import random
import unittest

from plain import KINDS, ONE, SAME, Plain, are_wholes, drawn_guesser, drawn_run
from wayguess.guessers import first_state
from wayguess.misses import by_places, missed, passed


class Missed(unittest.TestCase):
    def test_same(self):
        run = [(4, 1), (4, 0), (7, 1), (0, 0)]
        self.assertEqual(missed(("same", 1), run), [0, 1, 0, 1])
        self.assertEqual(missed(("same", 0), run), [1, 0, 1, 0])

    def test_a_table_of_last_ways(self):
        run = [(0, 0), (1, 1), (0, 1), (2, 1), (1, 1), (3, 0), (0, 0)]
        self.assertEqual(missed(("table", 2, ONE), run), [0, 1, 1, 0, 0, 1, 1])

    def test_a_run_of_none(self):
        for guesser in KINDS:
            self.assertEqual(missed(guesser, []), [])

    def test_against_the_plain_one(self):
        draw = random.Random(41)
        for guesser in list(KINDS) + [drawn_guesser(draw) for _ in range(200)]:
            run = drawn_run(draw, 50)
            self.assertEqual(missed(guesser, run), Plain(guesser).along(run))

    def test_400_events(self):
        draw = random.Random(42)
        for guesser in KINDS:
            run = drawn_run(draw, 400, 999)
            self.assertEqual(missed(guesser, run), Plain(guesser).along(run))

    def test_a_list_of_0_and_1(self):
        for guesser in KINDS:
            told = missed(guesser, [(0, 0), (0, 1), (3, 1), (0, 0)])
            self.assertIs(type(told), list)
            self.assertEqual([type(number) for number in told], [int] * 4)

    def test_a_told_list_is_a_new_one(self):
        for guesser in KINDS:
            for run in ([], [(3, 1), (3, 0), (4, 1)]):
                was = copy.deepcopy(run)
                told = missed(guesser, run)
                wanted = list(told)
                told.append(7)
                self.assertEqual(missed(guesser, run), wanted)
                self.assertEqual(run, was)

    def test_a_run_that_becomes_another_one(self):
        run = [(3, 1), (3, 1), (3, 1)]
        told = missed(("table", 1, ONE), run)
        run.clear()
        self.assertEqual(told, [1, 0, 0])
        self.assertEqual(missed(("table", 1, ONE), [(3, 1)]), [1])


class ByPlaces(unittest.TestCase):
    def test_places_rising_each_once(self):
        run = [(9, 1), (2, 0), (9, 0), (100, 1), (2, 1), (11, 0), (9, 1)]
        self.assertEqual(by_places(SAME, run), [(2, 2, 1), (9, 3, 1), (11, 1, 1), (100, 1, 0)])

    def test_places_that_share_a_cell_stay_apart(self):
        run = [(0, 1), (2, 1), (0, 0), (2, 0), (1, 1)]
        self.assertEqual(by_places(("table", 2, ONE), run), [(0, 2, 2), (1, 1, 1), (2, 2, 0)])

    def test_a_place_without_misses_is_told(self):
        self.assertEqual(by_places(SAME, [(5, 1), (5, 1)]), [(5, 2, 0)])

    def test_a_run_of_none(self):
        for guesser in KINDS:
            self.assertEqual(by_places(guesser, []), [])

    def test_against_the_plain_one(self):
        draw = random.Random(43)
        for guesser in list(KINDS) + [drawn_guesser(draw) for _ in range(200)]:
            run = drawn_run(draw, 60)
            misses = Plain(guesser).along(run)
            wanted = []
            for place in range(1000):
                its = [miss for event, miss in zip(run, misses) if event[0] == place]
                if its:
                    wanted.append((place, len(its), sum(its)))
            self.assertEqual(by_places(guesser, run), wanted)

    def test_the_kinds_of_what_is_told(self):
        told = by_places(("table", 2, ONE), [(3, 1), (1, 0), (3, 0)])
        self.assertIs(type(told), list)
        for item in told:
            self.assertIs(type(item), tuple)
            self.assertTrue(are_wholes(item))
            self.assertEqual(len(item), 3)

    def test_a_told_list_is_a_new_one(self):
        for run in ([], [(3, 1), (3, 0), (4, 1)]):
            was = copy.deepcopy(run)
            told = by_places(SAME, run)
            wanted = list(told)
            told.append(7)
            self.assertEqual(by_places(SAME, run), wanted)
            self.assertEqual(run, was)


class Passed(unittest.TestCase):
    def test_from_the_first_state(self):
        guesser = ("table", 2, ONE)
        self.assertEqual(passed(guesser, (0, 0), [(0, 0), (1, 1), (0, 1), (1, 1)]), (2, (1, 1)))

    def test_from_another_state(self):
        guesser = ("table", 2, ONE)
        self.assertEqual(passed(guesser, (1, 1), [(0, 0), (1, 1), (0, 1), (1, 1)]), (2, (1, 1)))
        self.assertEqual(passed(guesser, (0, 1), [(1, 1), (3, 1), (0, 0)]), (0, (0, 1)))
        self.assertEqual(passed(guesser, (1, 0), [(1, 1), (3, 1), (0, 0)]), (2, (0, 1)))

    def test_a_state_that_is_never_come_to(self):
        # State 2 of the cell is met by no way, and is a state nevertheless.
        cell = ((0, 0, 1), (0, 0, 1), (1, 1, 2))
        self.assertEqual(passed(("table", 1, cell), (2,), [(0, 1), (0, 1), (0, 0), (0, 0)]), (1, (0,)))

    def test_a_run_of_none(self):
        draw = random.Random(44)
        for guesser in KINDS:
            state = passed(guesser, first_state(guesser), drawn_run(draw, 20))[1]
            self.assertEqual(passed(guesser, state, []), (0, state))
            self.assertEqual(passed(guesser, first_state(guesser), []), (0, first_state(guesser)))

    def test_against_the_plain_one(self):
        draw = random.Random(45)
        for guesser in list(KINDS) + [drawn_guesser(draw) for _ in range(200)]:
            plain = Plain(guesser)
            state = first_state(guesser)
            for many in (20, 1, 15):
                run = drawn_run(draw, many)
                misses, state = passed(guesser, state, run)
                self.assertEqual(misses, sum(plain.along(run)))
                self.assertEqual(state, plain.state())

    def test_as_many_as_missed_tells(self):
        draw = random.Random(46)
        for guesser in KINDS:
            run = drawn_run(draw, 400, 999)
            misses = passed(guesser, first_state(guesser), run)[0]
            self.assertEqual(misses, sum(missed(guesser, run)))
            self.assertEqual(misses, sum(item[2] for item in by_places(guesser, run)))

    def test_the_kinds_of_what_is_told(self):
        for guesser in KINDS:
            told = passed(guesser, first_state(guesser), [(3, 1), (1, 0)])
            self.assertIs(type(told), tuple)
            self.assertEqual(len(told), 2)
            self.assertTrue(are_wholes(told))

    def test_what_was_handed_in_is_as_it_was(self):
        for guesser in KINDS:
            state = first_state(guesser)
            run = [(3, 1), (1, 0), (3, 0)]
            was = copy.deepcopy((guesser, state, run))
            passed(guesser, state, run)
            self.assertEqual((guesser, state, run), was)


class Beyond(unittest.TestCase):
    """The interface: somewhat beyond a limit no error is raised."""

    def test_longer_runs_and_further_places(self):
        run = [(1000, 1), (1001, 0)] * 300
        self.assertEqual(len(missed(("table", 2, ONE), run)), 600)
        self.assertEqual(by_places(("table", 2, ONE), run), [(1000, 300, 1), (1001, 300, 0)])
        self.assertEqual(passed(("table", 2, ONE), (0, 0), run), (1, (1, 0)))


if __name__ == "__main__":
    unittest.main()
