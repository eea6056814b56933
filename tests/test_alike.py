"""Stage 7: alike or not [1, 17, 18]."""

import copy
import itertools
import time
import unittest

from plain import (
    KINDS, ODD, ONE, OWN, SAME, TABLE, TURNING, TWO, Plain, difference, drawn_pairs, pairs_come_to,
)
from wayguess.alike import parting_run
from wayguess.cells import counter

# The states of ONE, each twice, and of TWO in another order.
ONE_TWICE = ((0, 1, 0, 1), (2, 0, 0, 2), (3, 3, 1, 1))
TWO_TURNED = ((0, 1, 1, 0), (3, 2, 0, 3), (2, 1, 1, 0))
# One of the states of ONE twice.
ONE_MORE = ((0, 1, 1), (0, 0, 0), (1, 2, 1))


def plain_parting(one, other, run, places):
    """The first place at which the guessers don't guess alike behind a run, or None."""
    both = [Plain(one), Plain(other)]
    for guesser in both:
        guesser.along(run)
    for place in places:
        if both[0].guess(place) != both[1].guess(place):
            return place
    return None


def first_parting(one, other, places, longest):
    """What is told, from all runs gone through in their order, where such a run is not longer than longest."""
    events = [(place, way) for place in places for way in (0, 1)]
    for many in range(longest + 1):
        for run in itertools.product(events, repeat=many):
            place = plain_parting(one, other, list(run), places)
            if place is not None:
                return (list(run), place)
    return None


DRAWN = drawn_pairs(71, 250, 400)


class Alike(unittest.TestCase):
    def alike(self, one, other, places):
        self.assertIsNone(parting_run(one, other, places))
        self.assertIsNone(parting_run(other, one, places))

    def test_each_is_like_itself(self):
        for guesser in KINDS[:6]:
            self.alike(guesser, guesser, [3])
        self.alike(TABLE, TABLE, [0, 1, 2, 500, 999])
        both = ("either", ("mixed", 2, 1, ONE), ("own", 2, 1, TURNING), 2, ODD)
        self.alike(both, both, [4, 9])

    def test_a_table_in_other_forms(self):
        for cell in (ONE, TWO, TURNING, ODD):
            for size in (1, 2, 3):
                table = ("table", size, cell)
                for other in (("mixed", size, 0, cell), ("joined", size, 0, cell)):
                    self.alike(table, other, [0, 1, 2])
                    self.alike(table, other, [5, 7])
            for rows in (1, 2, 5):
                self.alike(("table", 1, cell), ("own", rows, 0, cell), [0, 1, 2, 3])

    def test_joined_and_own_of_one_row(self):
        for cell in (ONE, TURNING):
            for length in (0, 1, 2):
                self.alike(("joined", 1, length, cell), ("own", 1, length, cell), [4, 9])

    def test_a_chooser_of_two_likes(self):
        for guesser in (SAME, ("table", 2, TWO), ("mixed", 2, 1, ONE), ("own", 1, 2, ONE)):
            for cell in (ONE, TURNING, ODD):
                for size in (1, 2, 16):
                    self.alike(("either", guesser, guesser, size, cell), guesser, [0, 1])
        table = ("table", 2, ONE)
        self.alike(("either", table, ("mixed", 2, 0, ONE_TWICE), 3, TWO), ("joined", 2, 0, ONE), [0, 1, 2, 3])

    def test_a_chooser_that_never_turns(self):
        self.alike(("either", TABLE, OWN, 1, ((0,), (0,), (0,))), TABLE, [0, 3])
        self.alike(("either", OWN, SAME, 2, ((1, 1), (1, 0), (0, 1))), SAME, [0, 4])

    def test_cells_with_states_twice_or_in_another_order(self):
        for kind in (("table", 2), ("mixed", 3, 1), ("joined", 1, 2), ("own", 2, 1)):
            self.alike(kind + (ONE,), kind + (ONE_TWICE,), [0, 1])
            self.alike(kind + (TWO,), kind + (TWO_TURNED,), [0])
        unmet = ((0, 1, 1, 0), (0, 0, 3, 2), (1, 1, 0, 2))
        self.alike(("table", 2, ONE), ("table", 2, unmet), [0, 1, 2])

    def test_sizes_that_tell_these_places_apart_alike(self):
        self.alike(("table", 2, TWO), ("table", 4, TWO), [0, 1])
        self.alike(("table", 2, TWO), ("table", 4, TWO), [0, 4, 8, 9])
        self.alike(("table", 3, ONE), ("table", 7, ONE), [0, 1, 2])
        self.assertIsNotNone(parting_run(("table", 2, TWO), ("table", 4, TWO), [0, 2]))

    def test_a_way_that_never_differs(self):
        self.alike(("table", 1, ((1, 1), (1, 0), (0, 1))), SAME, [8])
        self.alike(("mixed", 4, 3, ((0,), (0,), (0,))), ("same", 0), [8])


class Parting(unittest.TestCase):
    def test_at_once(self):
        self.assertEqual(parting_run(("same", 0), ("same", 1), [7]), ([], 7))
        self.assertEqual(parting_run(("same", 1), ("same", 0), [3, 7, 999]), ([], 3))
        self.assertEqual(parting_run(("table", 3, TWO), SAME, [2, 4]), ([], 2))
        self.assertEqual(parting_run(("table", 1, counter(2, 1)), ("table", 1, counter(2, 2)), [0]), ([], 0))

    def test_behind_one_event(self):
        self.assertEqual(parting_run(("table", 1, ONE), ("same", 0), [5]), ([(5, 1)], 5))
        self.assertEqual(parting_run(("table", 1, counter(1, 1)), SAME, [5, 6]), ([(5, 0)], 5))

    def test_late(self):
        for steps in (1, 2, 3, 4):
            told = parting_run(("table", 1, counter(steps, 0)), ("same", 0), [9])
            self.assertEqual(told, ([(9, 1)] * steps, 9))
        told = parting_run(("table", 2, counter(4, 0)), ("same", 0), [0, 1])
        self.assertEqual(told, ([(0, 1)] * 4, 0))
        ring = ((0,) * 7 + (1,), tuple(range(1, 8)) + (0,), tuple(range(1, 8)) + (0,))
        self.assertEqual(parting_run(("table", 1, ring), ("same", 0), [2, 4]), ([(2, 0)] * 7, 2))

    def test_at_another_place_than_the_first(self):
        self.assertEqual(parting_run(("table", 2, ONE), ("table", 1, ONE), [0, 1]), ([(0, 1)], 1))
        self.assertEqual(parting_run(("table", 4, ONE), ("table", 2, ONE), [0, 1, 2, 3]), ([(0, 1)], 2))
        self.assertEqual(parting_run(("table", 6, ONE), ("table", 3, ONE), [1, 2, 5, 8]), ([(2, 1)], 5))

    def test_the_first_place_of_several(self):
        self.assertEqual(parting_run(("table", 1, ONE), ("table", 16, ONE), [1, 3, 5, 9]), ([(1, 1)], 3))
        self.assertEqual(parting_run(("table", 1, ONE), ("same", 0), [0, 16, 32]), ([(0, 1)], 0))

    def test_the_first_run_of_several(self):
        # Behind (3, 0) they part at 4, behind (3, 1) at 3: the run that comes first is told.
        one = ("table", 2, ((0, 1, 0), (1, 1, 1), (2, 2, 2)))
        other = ("table", 1, ((0, 1, 1), (1, 1, 1), (2, 2, 2)))
        self.assertEqual(parting_run(one, other, [3, 4]), ([(3, 0)], 4))
        # A way 0 goes ahead of a way 1, a lesser place ahead of a way.
        turned = ("table", 1, ((0, 1), (0, 1), (1, 1)))
        ahead = ("table", 1, ((0, 1, 1), (1, 1, 1), (2, 2, 2)))
        self.assertEqual(parting_run(ahead, ("same", 0), [6]), ([(6, 0)], 6))
        self.assertEqual(parting_run(turned, ("same", 0), [6, 8]), ([(6, 1)], 6))

    def test_against_all_runs_in_their_order(self):
        told_long = 0
        for one, other, places, pairs in DRAWN:
            told = parting_run(one, other, places)
            if told is not None and len(told[0]) > 4:
                told_long += 1
                continue
            longest = 4 if len(places) < 3 else 3
            wanted = first_parting(one, other, places, longest)
            if told is None or len(told[0]) <= longest:
                self.assertEqual(told, wanted)
            else:
                self.assertIsNone(wanted)
        self.assertLess(told_long, len(DRAWN) // 4)

    def test_the_pairs_that_can_be_come_to_guess_alike_just_where_none_is_told(self):
        none = 0
        for one, other, places, pairs in DRAWN:
            alike = all(difference(one, other, pair, place, 0) == 0 for pair in pairs for place in places)
            self.assertIs(parting_run(one, other, places) is None, alike)
            self.assertIs(parting_run(other, one, places) is None, alike)
            none += alike
        self.assertGreater(none, 10)

    def test_either_way_about(self):
        for one, other, places, pairs in DRAWN:
            self.assertEqual(parting_run(one, other, places), parting_run(other, one, places))

    def test_they_part_where_it_is_told(self):
        lengths = set()
        for one, other, places, pairs in DRAWN:
            told = parting_run(one, other, places)
            if told is not None:
                self.assertEqual(plain_parting(one, other, told[0], places), told[1])
                for many in range(len(told[0])):
                    self.assertIsNone(plain_parting(one, other, told[0][:many], places))
                lengths.add(len(told[0]))
        self.assertLessEqual({0, 1, 2, 3}, lengths)

    def test_all_thousand_places(self):
        self.assertEqual(parting_run(("table", 16, ONE), ("table", 15, ONE), list(range(1000))), ([(0, 1)], 15))
        self.assertIsNone(parting_run(("table", 8, ONE), ("joined", 8, 0, ONE), list(range(1000))))


class FarMoreThanIsGoneThrough(unittest.TestCase):
    """Only the pairs behind runs that are not longer than the told one are bounded."""

    def test_part_soon(self):
        places = list(range(16))
        for other in (("joined", 16, 2, ONE), ("mixed", 16, 6, ONE), ("own", 16, 6, ONE)):
            told = parting_run(("table", 16, ONE), other, places)
            self.assertEqual(told, first_parting(("table", 16, ONE), other, places, 1))
            self.assertEqual(len(told[0]), 1)

    def test_part_at_once(self):
        great = ("either", ("own", 16, 6, counter(4, 3)), ("joined", 16, 2, counter(4, 3)), 16, counter(4, 4))
        self.assertEqual(parting_run(great, SAME, list(range(1000))), ([], 0))

    def test_part_behind_three_events(self):
        places = list(range(6))
        one = ("joined", 6, 2, ((0, 0, 1), (0, 1, 2), (1, 2, 2)))
        other = ("either", one, SAME, 1, ((0, 0, 0, 1), (0, 1, 2, 3), (1, 2, 3, 3)))
        told = parting_run(one, other, places)
        self.assertEqual(len(told[0]), 3)
        self.assertEqual(told, first_parting(one, other, places, 3))


class Told(unittest.TestCase):
    def test_the_kinds(self):
        for one, other, places, pairs in DRAWN:
            told = parting_run(one, other, places)
            if told is not None:
                self.assertIs(type(told), tuple)
                self.assertEqual(len(told), 2)
                self.assertIs(type(told[0]), list)
                self.assertIn(told[1], places)
                for event in told[0]:
                    self.assertIs(type(event), tuple)
                    self.assertIn(event[0], places)
                    self.assertIn(event[1], (0, 1))

    def test_the_row_of_places_stays_as_it_was(self):
        for one, other in ((SAME, ("same", 0)), (TABLE, TABLE), (TABLE, ("table", 2, TWO))):
            places = [0, 1, 2, 14]
            was = copy.deepcopy((one, other, places))
            parting_run(one, other, places)
            self.assertEqual((one, other, places), was)

    def test_a_told_run_is_a_new_list(self):
        for one, other in ((SAME, ("same", 0)), (("table", 1, counter(3, 0)), ("same", 0))):
            told = parting_run(one, other, [4])
            wanted = copy.deepcopy(told)
            told[0].append((4, 0))
            told[0].reverse()
            self.assertEqual(parting_run(one, other, [4]), wanted)

    def test_a_row_of_places_that_becomes_another_one(self):
        places = [1, 2]
        told = parting_run(("table", 2, ONE), ("table", 1, ONE), places)
        wanted = copy.deepcopy(told)
        places.clear()
        self.assertEqual(told, wanted)


class Many(unittest.TestCase):
    def test_some_3000_pairs_within_a_short_time(self):
        begun = time.process_time()
        self.assertEqual(len(pairs_come_to(("table", 7, ONE), ("table", 7, ONE_MORE), range(7), 3000)), 3 ** 7)
        self.assertIsNone(parting_run(("table", 7, ONE), ("table", 7, ONE_MORE), list(range(7))))
        self.assertIsNone(parting_run(("table", 11, ONE), ("mixed", 11, 0, ONE), list(range(11))))
        numbered = ("either", ("table", 4, ODD), ("own", 1, 5, ((0,), (0,), (0,))), 3, ((0,), (0,), (0,)))
        self.assertIsNone(parting_run(numbered, ("table", 4, ODD), list(range(4))))
        self.assertLess(time.process_time() - begun, 20)

    def test_many_places_and_many_pairs(self):
        begun = time.process_time()
        eleven = ("table", 11, ONE)
        self.assertIsNone(parting_run(eleven, ("either", eleven, eleven, 7, TWO), list(range(1000))))
        self.assertLess(time.process_time() - begun, 20)

    def test_late_among_many(self):
        # A cell must be brought six states up; whatever shorter runs make of the four cells comes ahead of it.
        ring = ((0, 0, 0, 0, 0, 0, 1), (0, 0, 1, 2, 3, 4, 5), (1, 2, 3, 4, 5, 6, 6))
        begun = time.process_time()
        told = parting_run(("table", 4, ring), ("same", 0), [0, 1, 2, 3])
        self.assertEqual(told, ([(0, 1)] * 6, 0))
        self.assertLess(time.process_time() - begun, 20)


class Beyond(unittest.TestCase):
    """The interface: somewhat beyond a limit no error is raised."""

    def test_no_error(self):
        self.assertIsNone(parting_run(SAME, ("same", 0), []))
        self.assertEqual(parting_run(SAME, ("same", 0), [1000, 1003]), ([], 1000))
        deeper = ("either", ("either", ("either", SAME, TABLE, 1, ONE), SAME, 1, ONE), SAME, 1, ONE)
        self.assertIsNone(parting_run(deeper, deeper, [0, 1]))


if __name__ == "__main__":
    unittest.main()
