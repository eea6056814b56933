"""Stage 11: what places spoil [1, 29, 30]."""

import copy
import random
import time
import unittest

from plain import ONE, TURNING, TWO, Plain, are_wholes, drawn_cell, drawn_run
from wayguess.spoils import lost_by_sharing, spoiled

LAST = ("table", 1, ONE)


def misses(guesser, run):
    return sum(Plain(guesser).along(run))


def alone(guesser, run, *places):
    """The misses of the events at these places alone."""
    return misses(guesser, [event for event in run if event[0] in places])


def spoiled_plainly(guesser, run):
    places = sorted({event[0] for event in run})
    told = []
    for place in places:
        for other in places:
            if place < other and place % guesser[1] == other % guesser[1]:
                each = alone(guesser, run, place) + alone(guesser, run, other)
                number = alone(guesser, run, place, other) - each
                if number != 0:
                    told.append((place, other, number))
    return told


class Spoiled(unittest.TestCase):
    def test_written_out(self):
        # By turns they teach each other wrong: seven misses of eight, where there would be one.
        run = [(0, 0), (2, 1)] * 4
        self.assertEqual(spoiled(LAST, run), [(0, 2, 6)])
        self.assertEqual(spoiled(("table", 2, ONE), run), [(0, 2, 6)])
        self.assertEqual(spoiled(("table", 3, ONE), run), [])

    def test_unlike_cells_spoil_nothing(self):
        run = [(0, 0), (1, 1)] * 4
        self.assertEqual(spoiled(("table", 2, ONE), run), [])
        self.assertEqual(spoiled(("table", 16, ONE), [(0, 1), (15, 0)] * 3), [])
        self.assertEqual(spoiled(("table", 16, ONE), [(0, 1), (16, 0)] * 3), [(0, 16, 5)])

    def test_below_0(self):
        # Each would learn its first way 1 by a miss; together one of them learns it from the other.
        self.assertEqual(spoiled(LAST, [(5, 1), (7, 1)]), [(5, 7, -1)])
        self.assertEqual(spoiled(("table", 1, TURNING), [(5, 0), (7, 1)] * 3), [(5, 7, -3)])

    def test_nought_is_not_told(self):
        self.assertEqual(spoiled(LAST, [(5, 0), (7, 0)] * 3), [])
        self.assertEqual(spoiled(LAST, [(5, 1), (7, 0), (7, 0)]), [(5, 7, 1)])
        self.assertEqual(spoiled(LAST, [(5, 1), (7, 1), (7, 0)]), [(5, 7, -1)])
        self.assertEqual(spoiled(LAST, [(7, 0), (5, 1), (7, 0), (5, 1)]), [(5, 7, 2)])
        self.assertEqual(spoiled(LAST, [(7, 1), (5, 1), (7, 0)]), [(5, 7, -1)])
        self.assertEqual(spoiled(LAST, [(7, 0), (7, 0), (5, 1)]), [])

    def test_pairs_rising(self):
        run = [(9, 1), (3, 0), (12, 1), (6, 0), (3, 0), (9, 1), (1, 1), (12, 1), (4, 0)]
        told = spoiled(("table", 3, ONE), run)
        self.assertEqual(told, spoiled_plainly(("table", 3, ONE), run))
        self.assertEqual(told, sorted(told))
        self.assertEqual([row[:2] for row in told], [(1, 4), (3, 9), (3, 12), (6, 9), (6, 12), (9, 12)])

    def test_one_place_alone_and_none(self):
        self.assertEqual(spoiled(LAST, []), [])
        self.assertEqual(spoiled(LAST, [(4, 1), (4, 0)] * 5), [])
        self.assertEqual(spoiled(("table", 7, TWO), []), [])

    def test_the_run_of_the_two_alone(self):
        # The third place stands between the two in the run, but not in the run of these two.
        run = [(0, 1), (2, 0), (4, 1), (2, 0), (0, 1)]
        self.assertEqual(spoiled(("table", 2, ONE), run), [(0, 2, 2), (0, 4, -1), (2, 4, 1)])
        self.assertEqual(spoiled(("table", 2, ONE), run), spoiled_plainly(("table", 2, ONE), run))

    def test_drawn_plainly(self):
        draw = random.Random(111)
        below = 0
        for _ in range(200):
            guesser = ("table", draw.randint(1, 5), drawn_cell(draw))
            run = drawn_run(draw, draw.randint(0, 40), 14)
            told = spoiled(guesser, run)
            self.assertEqual(told, spoiled_plainly(guesser, run))
            below += any(row[2] < 0 for row in told)
        self.assertGreater(below, 20)

    def test_400_events(self):
        draw = random.Random(112)
        begun = time.process_time()
        run = drawn_run(draw, 400, 20)
        self.assertEqual(spoiled(("table", 3, TWO), run), spoiled_plainly(("table", 3, TWO), run))
        apart = [(place, draw.randrange(2)) for place in draw.sample(range(1000), 400)]
        told = spoiled(LAST, apart)
        self.assertTrue(all(row[0] < row[1] and row[2] != 0 for row in told))
        self.assertGreater(len(told), 1000)
        self.assertLess(time.process_time() - begun, 30)

    def test_the_kinds_of_what_is_told(self):
        told = spoiled(LAST, [(5, 1), (7, 1)])
        self.assertIs(type(told), list)
        self.assertIs(type(told[0]), tuple)
        self.assertTrue(are_wholes(told[0]))

    def test_told_lists_are_new_ones(self):
        for run in ([], [(5, 1), (7, 1)]):
            was = copy.deepcopy(run)
            wanted = list(spoiled(LAST, run))
            spoiled(LAST, run).append((0, 0, 0))
            self.assertEqual(spoiled(LAST, run), wanted)
            self.assertEqual(run, was)


class LostBySharing(unittest.TestCase):
    def test_written_out(self):
        self.assertEqual(lost_by_sharing(LAST, [(0, 0), (2, 1)] * 4), 7 - 1)
        self.assertEqual(lost_by_sharing(LAST, [(5, 1), (7, 1)]), -1)
        self.assertEqual(lost_by_sharing(LAST, [(5, 1), (7, 1), (9, 1)]), -2)
        self.assertEqual(lost_by_sharing(("table", 2, ONE), [(0, 0), (1, 1)] * 4), 0)

    def test_a_run_of_none(self):
        self.assertEqual(lost_by_sharing(LAST, []), 0)
        self.assertEqual(lost_by_sharing(("table", 16, TWO), []), 0)

    def test_one_place_alone(self):
        self.assertEqual(lost_by_sharing(("table", 3, TWO), [(4, 1), (4, 0)] * 9), 0)

    def test_of_two_places_what_they_spoil(self):
        draw = random.Random(113)
        for _ in range(60):
            run = [(draw.choice((2, 6)), draw.randrange(2)) for _ in range(30)]
            told = spoiled(("table", 4, TWO), run)
            self.assertEqual(lost_by_sharing(("table", 4, TWO), run), sum(row[2] for row in told))

    def test_drawn_plainly(self):
        draw = random.Random(114)
        seen = set()
        for many in [draw.randint(0, 60) for _ in range(200)] + [400]:
            guesser = ("table", draw.randint(1, 6), drawn_cell(draw))
            run = drawn_run(draw, many, 14)
            each = sum(alone(guesser, run, place) for place in {event[0] for event in run})
            told = lost_by_sharing(guesser, run)
            self.assertEqual(told, misses(guesser, run) - each)
            self.assertIs(type(told), int)
            seen.add(told)
        self.assertGreater(max(seen), 0)
        self.assertLess(min(seen), 0)

    def test_what_was_handed_in_is_as_it_was(self):
        run = [(0, 0), (2, 1), (0, 1)]
        was = copy.deepcopy(run)
        lost_by_sharing(LAST, run)
        self.assertEqual(run, was)


if __name__ == "__main__":
    unittest.main()
