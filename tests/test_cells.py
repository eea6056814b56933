"""Stage 2: cells [1, 4, 5, 6]."""

import copy
import itertools
import random
import unittest

from deep import deep_things
from wayguess.cells import counter, is_cell, plain_cell, state_behind

COUNTERS = [(steps, first) for steps in (1, 2, 3, 4) for first in range(2 * steps)]


def guesses_along(cell, ways):
    """What a cell guesses ahead of each way, and behind the last one."""
    guesses, straight, aside = cell
    state = 0
    told = [guesses[0]]
    for way in ways:
        state = aside[state] if way else straight[state]
        told.append(guesses[state])
    return told


def come_to(cell):
    """How many states of a cell can be come to, found round by round."""
    known = {0}
    while True:
        more = known | {row[state] for row in cell[1:] for state in known}
        if more == known:
            return len(known)
        known = more


def renamed(cell, names):
    """The same cell, its state k called names[k]."""
    many = len(names)
    rows = [[0] * many, [0] * many, [0] * many]
    for state in range(many):
        rows[0][names[state]] = cell[0][state]
        rows[1][names[state]] = names[cell[1][state]]
        rows[2][names[state]] = names[cell[2][state]]
    return tuple(tuple(row) for row in rows)


def drawn_cell(draw, many):
    return (
        tuple(draw.randrange(2) for _ in range(many)),
        tuple(draw.randrange(many) for _ in range(many)),
        tuple(draw.randrange(many) for _ in range(many)),
    )


def in_a_ring(many):
    """A cell that goes on by a way 1 round all its states, and back to state 0 by a way 0."""
    return (
        tuple(state % 2 for state in range(many)),
        (0,) * many,
        tuple((state + 1) % many for state in range(many)),
    )


class IsCell(unittest.TestCase):
    def is_one(self, thing):
        self.assertIs(is_cell(thing), True)

    def is_none(self, thing):
        self.assertIs(is_cell(thing), False)

    def test_one_state(self):
        self.is_one(((0,), (0,), (0,)))
        self.is_one(((1,), (0,), (0,)))

    def test_two_states(self):
        for numbers in itertools.product((0, 1), repeat=6):
            self.is_one((numbers[:2], numbers[2:4], numbers[4:]))

    def test_many_states(self):
        for many in (3, 8, 9, 30, 31, 400, 3000):
            self.is_one(in_a_ring(many))
            self.is_one(((1,) * many, (many - 1,) * many, (0,) * many))

    def test_states_that_can_t_be_come_to(self):
        self.is_one(((0, 1, 1), (0, 0, 0), (0, 1, 2)))

    def test_other_guesses(self):
        for wrong in (2, -1, 3, 10 ** 20):
            self.is_none(((wrong,), (0,), (0,)))
            self.is_none(((0, 1, wrong), (0, 1, 2), (0, 1, 2)))
            self.is_none(((wrong, 1, 0), (0, 1, 2), (0, 1, 2)))

    def test_a_guess_is_0_or_1_however_many_states(self):
        self.is_none(((0, 1, 2), (0, 1, 2), (0, 1, 2)))

    def test_a_state_that_there_is_not(self):
        for many in (1, 2, 3, 8, 300):
            good = (0,) * many
            for wrong in (many, many + 1, -1, 10 ** 20):
                first = (wrong,) + good[1:]
                last = good[1:] + (wrong,)
                for bad in (first, last):
                    self.is_none((good, bad, good))
                    self.is_none((good, good, bad))

    def test_rows_of_unlike_lengths(self):
        self.is_none(((0, 0), (0,), (0,)))
        self.is_none(((0,), (0, 0), (0,)))
        self.is_none(((0,), (0,), (0, 0)))
        self.is_none(((0,), (0, 0), (0, 0)))
        self.is_none(((0, 0), (0,), (0, 0)))
        self.is_none(((0, 0), (0, 0), (0,)))

    def test_rows_of_none(self):
        self.is_none(((), (), ()))
        self.is_none(((0,), (), (0,)))
        self.is_none(((0,), (0,), ()))
        self.is_none(((), (0,), (0,)))

    def test_lists_in_the_place_of_tuples(self):
        self.is_none([(0,), (0,), (0,)])
        self.is_none(([0], (0,), (0,)))
        self.is_none(((0,), [0], (0,)))
        self.is_none(((0,), (0,), [0]))
        self.is_none([[0], [0], [0]])

    def test_other_numbers_of_rows(self):
        row = (0,)
        for many in (0, 1, 2, 4, 5):
            self.is_none((row,) * many)

    def test_truths_are_no_numbers(self):
        for truth in (True, False):
            self.is_none(((truth,), (0,), (0,)))
            self.is_none(((0, 0), (truth, 0), (0, 0)))
            self.is_none(((0, 0), (0, truth), (0, 0)))
            self.is_none(((0, 0), (0, 0), (0, truth)))
            self.is_none(((0, truth), (0, 0), (0, 0)))
            self.is_none(truth)
            self.is_none((truth, truth, truth))

    def test_other_kinds(self):
        others = (None, 0, 1, -1, 10 ** 30, "", "0", "000", "c2.1", b"", b"0", b"000", [], {}, {0: 0}, {0}, object())
        for thing in others:
            self.is_none(thing)
            self.is_none((thing, (0,), (0,)))
            self.is_none(((0,), thing, (0,)))
            self.is_none(((0,), (0,), thing))
            self.is_none((thing, thing, thing))

    def test_other_kinds_in_the_place_of_numbers(self):
        for thing in (None, "", "0", b"0", [], [0], (), (0,), {}, {0: 0}, object()):
            self.is_none(((thing,), (0,), (0,)))
            self.is_none(((0,), (thing,), (0,)))
            self.is_none(((0,), (0,), (thing,)))
            self.is_none(((0, 0), (0, thing), (0, 0)))

    def test_thousands_deep(self):
        for thing in deep_things():
            self.is_none(thing)
            self.is_none((thing, thing, thing))
            self.is_none((thing, (0,), (0,)))
            self.is_none(((0,), (thing,), (0,)))
            self.is_none(((0,), (0,), (thing,)))
            self.is_none(((thing,), (0,), (0,)))

    def test_what_was_handed_in_is_as_it_was(self):
        things = [[[0], [0], [0]], ([0], (0,), (0,)), {0: [1]}, ((0,), ([0],), ({0: [0]},))]
        was = copy.deepcopy(things)
        for thing in things:
            self.is_none(thing)
        self.assertEqual(things, was)


class StateBehind(unittest.TestCase):
    def test_by_a_way_0_and_by_a_way_1(self):
        cell = ((0, 1, 0), (1, 2, 2), (0, 0, 1))
        self.assertEqual([state_behind(cell, state, 0) for state in range(3)], [1, 2, 2])
        self.assertEqual([state_behind(cell, state, 1) for state in range(3)], [0, 0, 1])


class Counter(unittest.TestCase):
    def test_written_out(self):
        self.assertEqual(counter(1, 0), ((0, 1), (0, 0), (1, 1)))
        self.assertEqual(counter(1, 1), ((1, 0), (1, 1), (0, 0)))
        self.assertEqual(counter(2, 0), ((0, 0, 1, 1), (0, 0, 1, 2), (1, 2, 3, 3)))
        self.assertEqual(counter(2, 1), ((0, 0, 1, 1), (1, 1, 0, 2), (2, 0, 3, 3)))
        self.assertEqual(counter(2, 2), ((1, 0, 1, 0), (1, 3, 0, 3), (2, 0, 2, 1)))
        self.assertEqual(counter(2, 3), ((1, 1, 0, 0), (1, 2, 3, 3), (0, 0, 1, 2)))

    def test_every_counter_state_by_state(self):
        for steps, first in COUNTERS:
            # A step is met the earlier the nearer it is to the first one, the lower one of two ahead.
            order = sorted(range(2 * steps), key=lambda step: (abs(step - first), step))
            last = 2 * steps - 1
            guesses = tuple(1 if step >= steps else 0 for step in order)
            straight = tuple(order.index(step - 1 if step > 0 else 0) for step in order)
            aside = tuple(order.index(step + 1 if step < last else last) for step in order)
            with self.subTest(steps=steps, first=first):
                self.assertEqual(counter(steps, first), (guesses, straight, aside))

    def test_both_ways_at_the_first_and_the_last_step(self):
        for steps, first in COUNTERS:
            cell = counter(steps, first)
            with self.subTest(steps=steps, first=first):
                # So many ways that the end is come to and stayed at, then so many back that the guess turns.
                down = [0] * 9 + [1] * steps
                self.assertEqual(guesses_along(cell, down)[9:], [0] * steps + [1])
                up = [1] * 9 + [0] * steps
                self.assertEqual(guesses_along(cell, up)[9:], [1] * steps + [0])

    def test_guesses_along_all_short_rows_of_ways(self):
        for steps, first in COUNTERS:
            cell = counter(steps, first)
            for ways in itertools.product((0, 1), repeat=9):
                step = first
                wanted = [int(step >= steps)]
                for way in ways:
                    step = min(step + 1, 2 * steps - 1) if way else max(step - 1, 0)
                    wanted.append(int(step >= steps))
                self.assertEqual(guesses_along(cell, ways), wanted)

    def test_each_is_a_cell_of_all_its_steps(self):
        for steps, first in COUNTERS:
            cell = counter(steps, first)
            self.assertIs(is_cell(cell), True)
            self.assertEqual([len(row) for row in cell], [2 * steps] * 3)

    def test_somewhat_beyond_no_error(self):
        for steps, first in ((5, 0), (5, 9), (6, 3), (2, 4), (2, 5), (2, -1), (0, 0)):
            self.assertIs(is_cell(counter(steps, first)), True)


class PlainCell(unittest.TestCase):
    def test_one_state(self):
        self.assertEqual(plain_cell(((1,), (0,), (0,))), ((1,), (0,), (0,)))

    def test_without_states_that_can_t_be_come_to(self):
        self.assertEqual(plain_cell(((0, 1), (0, 0), (0, 1))), ((0,), (0,), (0,)))
        self.assertEqual(plain_cell(((0, 1, 1), (2, 0, 0), (0, 1, 2))), ((0, 1), (1, 0), (0, 1)))
        self.assertEqual(plain_cell(((1, 0, 0, 1), (3, 1, 0, 3), (0, 2, 2, 0))), ((1, 1), (1, 1), (0, 0)))

    def test_in_the_order_in_which_they_are_met(self):
        self.assertEqual(plain_cell(((0, 1, 0), (2, 1, 0), (1, 0, 2))), ((0, 0, 1), (1, 0, 2), (2, 1, 0)))
        self.assertEqual(plain_cell(((0, 1, 1), (0, 2, 1), (2, 1, 0))), ((0, 1, 1), (0, 2, 1), (1, 0, 2)))

    def test_first_all_of_one_state_then_of_the_next(self):
        # 0 goes to 4 and 2, 4 to 1 and 3: not 1, which is behind 4, ahead of 2.
        cell = ((0, 0, 1, 1, 1), (4, 1, 2, 3, 1), (2, 1, 2, 3, 3))
        self.assertEqual(plain_cell(cell), ((0, 1, 1, 0, 1), (1, 3, 2, 3, 4), (2, 4, 2, 3, 4)))

    def test_like_states_stay_apart(self):
        self.assertEqual(plain_cell(((0, 0), (1, 1), (0, 0))), ((0, 0), (1, 1), (0, 0)))
        self.assertEqual(plain_cell(((1, 1, 1), (2, 1, 2), (1, 1, 2))), ((1, 1, 1), (1, 1, 2), (2, 1, 2)))

    def test_of_a_counter_itself(self):
        for steps, first in COUNTERS:
            self.assertEqual(plain_cell(counter(steps, first)), counter(steps, first))

    def test_of_a_counter_in_another_order(self):
        draw = random.Random(1)
        for steps, first in COUNTERS:
            for _ in range(20):
                others = draw.sample(range(1, 2 * steps), 2 * steps - 1)
                mixed = renamed(counter(steps, first), [0] + others)
                self.assertEqual(plain_cell(mixed), counter(steps, first))

    def test_of_all_cells_of_two_states(self):
        for numbers in itertools.product((0, 1), repeat=6):
            guesses, straight, aside = numbers[:2], numbers[2:4], numbers[4:]
            # Where state 0 stays, state 1 can't be come to; else the order is the only one.
            stays = straight[0] == 0 and aside[0] == 0
            wanted = ((guesses[0],), (0,), (0,)) if stays else (guesses, straight, aside)
            self.assertEqual(plain_cell((guesses, straight, aside)), wanted)

    def test_up_to_thirty_states(self):
        for many in range(1, 31):
            self.assertEqual(plain_cell(in_a_ring(many)), in_a_ring(many))
            backwards = [0] + list(range(many - 1, 0, -1))
            self.assertEqual(plain_cell(renamed(in_a_ring(many), backwards)), in_a_ring(many))

    def test_of_drawn_cells(self):
        draw = random.Random(2)
        for many in list(range(1, 31)) * 5:
            cell = drawn_cell(draw, many)
            plain = plain_cell(cell)
            self.assertIs(is_cell(plain), True)
            self.assertEqual(len(plain[0]), come_to(cell))
            self.assertEqual(self.states_by_first_meeting(plain), list(range(len(plain[0]))))
            self.assertEqual(plain_cell(plain), plain)
            others = draw.sample(range(1, many), many - 1)
            self.assertEqual(plain_cell(renamed(cell, [0] + others)), plain)
            ways = [draw.randrange(2) for _ in range(200)]
            self.assertEqual(guesses_along(plain, ways), guesses_along(cell, ways))

    def states_by_first_meeting(self, cell):
        """The states as the rows name them, each where it is named first."""
        named = [0]
        for pair in zip(cell[1], cell[2]):
            named.extend(pair)
        return list(dict.fromkeys(named))

    def test_tuples_through_and_through(self):
        for cell in (counter(2, 1), plain_cell(((0, 1), (1, 0), (0, 1)))):
            self.assertIs(type(cell), tuple)
            self.assertEqual([type(row) for row in cell], [tuple] * 3)

    def test_what_was_handed_in_is_as_it_was(self):
        cell = ((0, 1, 1), (2, 0, 0), (0, 1, 2))
        was = copy.deepcopy(cell)
        plain_cell(cell)
        self.assertEqual(cell, was)

    def test_more_than_thirty_states(self):
        self.assertEqual(plain_cell(in_a_ring(60)), in_a_ring(60))


if __name__ == "__main__":
    unittest.main()
