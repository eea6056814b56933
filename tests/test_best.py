"""Stage 10: the best of a kind [1, 27, 28]."""

import copy
import itertools
import random
import time
import unittest

from plain import ODD, ONE, TURNING, TWO, Plain, are_wholes, drawn_cell
from wayguess.best import best_cell, cell_misses
from wayguess.cells import counter, is_cell, plain_cell


def all_cells(many):
    """All cells of just so many states."""
    rows = list(itertools.product(range(many), repeat=many))
    return itertools.product(itertools.product((0, 1), repeat=many), rows, rows)


def misses_plainly(cell, ways):
    state = 0
    misses = 0
    for way in ways:
        misses += cell[0][state] != way
        state = cell[1 + way][state]
    return misses


def best_plainly(ways, many):
    """The best cell of all of at most so many states, gone through one by one."""
    best = None
    for states in range(1, many + 1):
        for cell in all_cells(states):
            plain = plain_cell(cell)
            key = (misses_plainly(cell, ways), len(plain[0]), plain)
            if best is None or key < best:
                best = key
    return (best[0], best[2])


class CellMisses(unittest.TestCase):
    def test_written_out(self):
        self.assertEqual(cell_misses(ONE, [0, 0, 1, 1, 0, 1]), 3)
        self.assertEqual(cell_misses(TURNING, [0, 1, 0, 1]), 0)
        self.assertEqual(cell_misses(TURNING, [1, 0, 1, 0]), 4)
        self.assertEqual(cell_misses(counter(2, 0), [1, 1, 1, 0, 1]), 3)
        self.assertEqual(cell_misses(((1,), (0,), (0,)), [0, 0, 1]), 2)

    def test_a_row_of_none(self):
        for cell in (ONE, TWO, TURNING, ODD):
            self.assertEqual(cell_misses(cell, []), 0)

    def test_as_those_of_the_run_at_one_place(self):
        draw = random.Random(101)
        for _ in range(200):
            cell = drawn_cell(draw, 8)
            ways = [draw.randrange(2) for _ in range(draw.randint(0, 400))]
            place = draw.randint(0, 999)
            plain = Plain(("table", draw.randint(1, 16), cell))
            self.assertEqual(cell_misses(cell, ways), sum(plain.along([(place, way) for way in ways])))

    def test_the_row_of_ways_stays_as_it_was(self):
        ways = [0, 1, 1]
        self.assertIs(type(cell_misses(ONE, ways)), int)
        self.assertEqual(ways, [0, 1, 1])


class BestCell(unittest.TestCase):
    def test_a_row_of_none(self):
        for many in (1, 2, 3):
            self.assertEqual(best_cell([], many), (0, ((0,), (0,), (0,))))

    def test_one_way_alone(self):
        for many in (1, 2, 3):
            for length in (1, 2, 60):
                self.assertEqual(best_cell([0] * length, many), (0, ((0,), (0,), (0,))))
                self.assertEqual(best_cell([1] * length, many), (0, ((1,), (0,), (0,))))

    def test_by_turns(self):
        self.assertEqual(best_cell([0, 1] * 30, 1), (30, ((0,), (0,), (0,))))
        self.assertEqual(best_cell([1, 0] * 30, 1), (30, ((0,), (0,), (0,))))
        self.assertEqual(best_cell([0, 1] * 30, 2), (0, ((0, 1), (1, 0), (0, 0))))
        self.assertEqual(best_cell([0, 1] * 30, 3), (0, ((0, 1), (1, 0), (0, 0))))
        self.assertEqual(best_cell([1, 0] * 30, 2), (0, ((1, 0), (0, 0), (1, 0))))

    def test_by_threes(self):
        misses, cell = best_cell([0, 1, 1] * 20, 3)
        self.assertEqual(misses, 0)
        self.assertEqual(len(cell[0]), 3)
        self.assertEqual(best_cell([0, 1, 1] * 20, 1), (20, ((1,), (0,), (0,))))

    def test_each_state_more_may_be_worth_it(self):
        ways = [0, 0, 0, 1] * 15
        told = [best_cell(ways, many)[0] for many in (1, 2, 3)]
        self.assertEqual(told, [best_plainly(ways, many)[0] for many in (1, 2, 3)])
        self.assertEqual(told, sorted(told, reverse=True))

    def test_fewest_states_where_misses_are_the_same(self):
        self.assertEqual([len(best_cell([0, 0, 0], many)[1][0]) for many in (1, 2, 3)], [1, 1, 1])
        self.assertEqual([len(best_cell([0, 1], many)[1][0]) for many in (1, 2, 3)], [1, 2, 2])
        self.assertEqual([len(best_cell([0, 0, 1], many)[1][0]) for many in (1, 2, 3)], [1, 1, 3])

    def test_all_short_rows_of_two_states(self):
        for length in range(7):
            for ways in itertools.product((0, 1), repeat=length):
                for many in (1, 2):
                    self.assertEqual(best_cell(list(ways), many), best_plainly(ways, many))

    def test_short_rows_of_three_states(self):
        draw = random.Random(102)
        rows = [[draw.randrange(2) for _ in range(length)] for length in (1, 2, 3, 4, 5, 6, 8, 10, 12, 15)]
        for ways in rows:
            self.assertEqual(best_cell(ways, 3), best_plainly(ways, 3))

    def test_rows_of_60_ways(self):
        draw = random.Random(103)
        begun = time.process_time()
        for _ in range(20):
            ways = [draw.randrange(2) for _ in range(60)]
            told = [best_cell(ways, many) for many in (1, 2, 3)]
            self.assertEqual(told[0], best_plainly(ways, 1))
            self.assertEqual(told[1], best_plainly(ways, 2))
            for misses, cell in told:
                self.assertEqual(cell_misses(cell, ways), misses)
            self.assertTrue(told[0][0] >= told[1][0] >= told[2][0])
        self.assertLess(time.process_time() - begun, 30)
        self.assertEqual(best_cell(ways, 3), best_plainly(ways, 3))

    def test_the_told_cell_is_its_own_plain_form(self):
        draw = random.Random(104)
        for _ in range(60):
            ways = [draw.randrange(2) for _ in range(draw.randint(0, 60))]
            for many in (1, 2, 3):
                told = best_cell(ways, many)
                self.assertIs(type(told), tuple)
                self.assertEqual(len(told), 2)
                self.assertTrue(are_wholes(told))
                self.assertIs(is_cell(told[1]), True)
                self.assertEqual(plain_cell(told[1]), told[1])
                self.assertLessEqual(len(told[1][0]), many)

    def test_the_row_of_ways_stays_as_it_was(self):
        ways = [0, 1, 1, 0]
        was = copy.deepcopy(ways)
        told = best_cell(ways, 3)
        self.assertEqual(ways, was)
        ways.clear()
        self.assertEqual(best_cell(was, 3), told)

    def test_somewhat_beyond_no_error(self):
        ways = [0, 0, 1, 0, 1, 1, 0, 1] * 9
        self.assertEqual(best_cell(ways, 0), best_cell(ways, 1))
        self.assertLessEqual(best_cell(ways, 4)[0], best_cell(ways, 3)[0])


if __name__ == "__main__":
    unittest.main()
