"""Stage 6: for ever [1, 15, 16]."""

import copy
import random
import unittest
from unittest import mock

from deep import deep_things
from plain import KINDS, ONE, SAME, TURNING, Plain, are_wholes, drawn_guesser, drawn_pattern, written_out
from wayguess.guessers import first_state
from wayguess.misses import passed
from wayguess.patterns import misses_of, passed_pattern
from wayguess.rounds import for_ever, is_round, misses_behind

import wayguess.patterns

MOST = 10 ** 18
NOTHING = ("row", ())
UP = ("way", 0, 1)
DOWN = ("way", 0, 0)
TABLE = ("table", 1, ONE)
# Three states ahead of a ring of four; a miss at the first one and at one in the ring.
SEVEN = ("table", 1, ((0, 1, 1, 1, 0, 1, 1), (1, 2, 3, 4, 5, 6, 3), (1, 2, 3, 4, 5, 6, 3)))


def row(*patterns):
    return ("row", patterns)


def times(number, pattern):
    return ("times", number, pattern)


def found_plainly(guesser, ahead, around):
    """The four numbers, and the states and misses ahead of each pass, by going through event by event."""
    plain = Plain(guesser)
    misses = [sum(plain.along(written_out(ahead)))]
    states = [plain.state()]
    while True:
        misses.append(misses[-1] + sum(plain.along(written_out(around))))
        if plain.state() in states:
            passes = states.index(plain.state())
            return (passes, len(states) - passes, misses[passes], misses[-1] - misses[passes]), states, misses
        states.append(plain.state())


def drawn_rounds(seed, many):
    draw = random.Random(seed)
    told = []
    while len(told) < many:
        guesser = draw.choice(KINDS) if draw.randrange(4) == 0 else drawn_guesser(draw)
        ahead = drawn_pattern(draw, 3, 3)
        around = drawn_pattern(draw, 3, 3)
        passes, length = for_ever(guesser, ahead, around)[:2]
        if len(written_out(around)) <= 12 and passes < 40 and length < 40:
            told.append((guesser, ahead, around))
    return told


ROUNDS = drawn_rounds(61, 150)


class ForEver(unittest.TestCase):
    def test_written_out(self):
        self.assertEqual(for_ever(TABLE, NOTHING, UP), (1, 1, 1, 0))
        self.assertEqual(for_ever(TABLE, NOTHING, DOWN), (0, 1, 0, 0))
        self.assertEqual(for_ever(TABLE, NOTHING, row(UP, DOWN)), (0, 1, 0, 2))
        self.assertEqual(for_ever(("table", 1, TURNING), NOTHING, UP), (0, 2, 0, 1))
        self.assertEqual(for_ever(SEVEN, NOTHING, UP), (3, 4, 1, 1))
        self.assertEqual(for_ever(SEVEN, NOTHING, DOWN), (3, 4, 2, 3))

    def test_a_pattern_ahead(self):
        self.assertEqual(for_ever(TABLE, UP, UP), (0, 1, 1, 0))
        self.assertEqual(for_ever(TABLE, row(UP, DOWN), UP), (1, 1, 3, 0))
        self.assertEqual(for_ever(SEVEN, UP, UP), (2, 4, 1, 1))
        self.assertEqual(for_ever(SEVEN, times(3, UP), UP), (0, 4, 1, 1))
        self.assertEqual(for_ever(SEVEN, times(5, UP), UP), (0, 4, 2, 1))
        self.assertEqual(for_ever(SEVEN, times(MOST, UP), UP)[:2], (0, 4))
        self.assertEqual(for_ever(SEVEN, times(4 * 10 ** 17 + 3, DOWN), DOWN), (0, 4, 2 + 3 * 10 ** 17, 3))

    def test_passes_are_counted_not_events(self):
        self.assertEqual(for_ever(SEVEN, NOTHING, row(UP, UP)), (2, 2, 1, 1))
        self.assertEqual(for_ever(SEVEN, NOTHING, times(4, UP)), (1, 1, 1, 1))
        self.assertEqual(for_ever(SEVEN, NOTHING, times(3, UP)), (1, 4, 1, 3))
        self.assertEqual(for_ever(SEVEN, NOTHING, times(MOST, UP)), (1, 1, 25 * 10 ** 16, 25 * 10 ** 16))

    def test_a_round_of_no_events(self):
        for guesser in KINDS:
            for empty in (NOTHING, times(0, UP), times(MOST, row(NOTHING))):
                self.assertEqual(for_ever(guesser, NOTHING, empty), (0, 1, 0, 0))
                ahead = row(UP, DOWN, UP)
                self.assertEqual(for_ever(guesser, ahead, empty), (0, 1, misses_of(guesser, ahead), 0))

    def test_same_comes_again_at_once(self):
        self.assertEqual(for_ever(SAME, row(UP, DOWN), row(UP, DOWN, DOWN)), (0, 1, 1, 2))

    def test_the_least_numbers_of_drawn_ones(self):
        for guesser, ahead, around in ROUNDS:
            self.assertEqual(for_ever(guesser, ahead, around), found_plainly(guesser, ahead, around)[0])

    def test_drawn_ones_are_of_many_sorts(self):
        told = [for_ever(*one) for one in ROUNDS]
        self.assertGreater(len(set(told)), 60)
        self.assertGreater(len([one for one in told if one[0] > 0 and one[1] > 1]), 10)

    def test_thousands_of_passes(self):
        # A number of six last ways and a cell for each, at places that take turns: the states come late.
        guesser = ("either", ("own", 3, 6, TURNING), ("mixed", 7, 6, TURNING), 1, TURNING)
        around = row(UP, ("way", 1, 1), ("way", 2, 0))
        passes, length, misses, more = for_ever(guesser, NOTHING, around)
        state = passed_pattern(guesser, first_state(guesser), times(passes, around))[1]
        self.assertIs(is_round(guesser, NOTHING, around, (passes, length, misses, more), state), True)
        many = 280
        rings = [
            ("table", 1, ((0,) * size,) + (tuple((at + 1) % size for at in range(size)),) * 2) for size in (7, 5, 8)
        ]
        long = ("either", rings[0], ("either", rings[1], rings[2], 1, ONE), 1, ONE)
        self.assertEqual(for_ever(long, NOTHING, UP), (0, many, 0, many))

    def test_a_round_that_is_the_pattern_ahead_is_gone_through_once_from_each_state(self):
        ring = ("table", 1, ((0,) * 8,) + (tuple((at + 1) % 8 for at in range(8)),) * 2)
        asked = []
        real = wayguess.patterns.miss_and_state

        def counted(guesser, state, place, way):
            asked.append(state)
            return real(guesser, state, place, way)

        with mock.patch.object(wayguess.patterns, "miss_and_state", counted):
            self.assertEqual(for_ever(ring, UP, UP), (0, 8, 1, 8))
            self.assertEqual(sorted(asked), [(state,) for state in range(8)])
            asked.clear()
            self.assertEqual(for_ever(ring, times(MOST, UP), UP), (0, 8, MOST, 8))
            self.assertEqual(sorted(asked), [(state,) for state in range(8)])

    def test_the_kinds_of_what_is_told(self):
        for guesser in KINDS:
            told = for_ever(guesser, UP, row(UP, DOWN))
            self.assertIs(type(told), tuple)
            self.assertEqual(len(told), 4)
            self.assertTrue(are_wholes(told))

    def test_what_was_handed_in_is_as_it_was(self):
        for guesser in KINDS:
            handed = (guesser, row(UP, times(3, DOWN)), row(UP, DOWN))
            was = copy.deepcopy(handed)
            told = for_ever(*handed)
            self.assertEqual(handed, was)
            self.assertEqual(for_ever(*handed), told)


class MissesBehind(unittest.TestCase):
    def test_written_out(self):
        told = [misses_behind(SEVEN, NOTHING, UP, passes) for passes in range(10)]
        self.assertEqual(told, [0, 1, 1, 1, 1, 2, 2, 2, 2, 3])
        told = [misses_behind(SEVEN, times(2, DOWN), DOWN, passes) for passes in range(7)]
        self.assertEqual(told, [1, 2, 3, 3, 4, 5, 6])

    def test_no_passes(self):
        for guesser in KINDS:
            for ahead in (NOTHING, UP, row(UP, DOWN, UP)):
                self.assertEqual(misses_behind(guesser, ahead, row(UP, UP), 0), misses_of(guesser, ahead))

    def test_few_passes_and_ever_so_many(self):
        for guesser, ahead, around in ROUNDS:
            (passes, length, begun, more), states, misses = found_plainly(guesser, ahead, around)
            for many in range(len(misses)):
                self.assertEqual(misses_behind(guesser, ahead, around, many), misses[many])
            for many in (passes + 7 * length, passes + 3 * length + 1, MOST - 1, MOST):
                loops, rest = divmod(many - passes, length)
                wanted = misses[passes + rest] + loops * more
                self.assertEqual(misses_behind(guesser, ahead, around, many), wanted)

    def test_a_round_of_no_events(self):
        for passes in (0, 1, 5, MOST):
            self.assertEqual(misses_behind(TABLE, row(UP, DOWN), NOTHING, passes), 2)

    def test_as_the_pattern_of_both(self):
        for guesser in KINDS:
            for passes in (0, 1, 9, MOST):
                whole = row(UP, times(passes, row(DOWN, UP)))
                self.assertEqual(misses_behind(guesser, UP, row(DOWN, UP), passes), misses_of(guesser, whole))

    def test_a_whole_number(self):
        for passes in (0, 3, MOST):
            self.assertIs(type(misses_behind(TABLE, UP, DOWN, passes)), int)

    def test_somewhat_beyond_no_error(self):
        self.assertEqual(misses_behind(SAME, NOTHING, DOWN, 10 ** 19), 10 ** 19)
        misses_behind(SAME, NOTHING, DOWN, -1)


class IsRound(unittest.TestCase):
    def is_one(self, *handed):
        self.assertIs(is_round(*handed), True)

    def is_none(self, *handed):
        self.assertIs(is_round(*handed), False)

    def test_the_told_numbers(self):
        self.is_one(SEVEN, NOTHING, UP, (3, 4, 1, 1), (3,))
        self.is_one(SEVEN, UP, UP, (2, 4, 1, 1), (3,))
        self.is_one(TABLE, NOTHING, row(UP, DOWN), (0, 1, 0, 2), (0,))
        self.is_one(SAME, DOWN, DOWN, (0, 1, 1, 1), ())
        for guesser, ahead, around in ROUNDS:
            told, states, misses = found_plainly(guesser, ahead, around)
            self.is_one(guesser, ahead, around, told, states[told[0]])

    def test_right_but_not_the_least(self):
        self.is_one(SEVEN, NOTHING, UP, (4, 4, 1, 1), (4,))
        self.is_one(SEVEN, NOTHING, UP, (5, 4, 2, 1), (5,))
        self.is_one(SEVEN, NOTHING, UP, (3, 8, 1, 2), (3,))
        self.is_one(SEVEN, NOTHING, UP, (7, 400, 2, 100), (3,))
        self.is_one(SEVEN, NOTHING, UP, (3 + 4 * MOST, 4 * MOST, 1 + MOST, MOST), (3,))
        self.is_one(SEVEN, NOTHING, UP, (3, 4 * 10 ** 500, 1, 10 ** 500), (3,))
        for guesser, ahead, around in ROUNDS:
            (passes, length, begun, more), states, misses = found_plainly(guesser, ahead, around)
            for later in range(passes, len(states)):
                told = (later + 2 * length, 3 * length, misses[later] + 2 * more, 3 * more)
                self.is_one(guesser, ahead, around, told, states[later])

    def test_wrong_numbers(self):
        good = (3, 4, 1, 1)
        for at in range(4):
            for other in (-MOST, -5, -4, -1, 0, 1, 2, 3, 4, 5, 7, 8, MOST, 10 ** 40):
                told = good[:at] + (other,) + good[at + 1:]
                if other != good[at] and told != (7, 4, 1, 1):
                    self.is_none(SEVEN, NOTHING, UP, told, (3,))
        # Of the passes ahead the state is right, the misses aren't.
        self.is_none(SEVEN, NOTHING, UP, (7, 4, 1, 1), (3,))
        self.is_one(SEVEN, NOTHING, UP, (7, 4, 2, 1), (3,))

    def test_wrong_numbers_of_drawn_ones(self):
        for guesser, ahead, around in ROUNDS:
            told, states, misses = found_plainly(guesser, ahead, around)
            passes, length, begun, more = told
            state = states[passes]
            self.is_none(guesser, ahead, around, (passes, length, begun + 1, more), state)
            self.is_none(guesser, ahead, around, (passes, length, begun, more + 1), state)
            self.is_none(guesser, ahead, around, (passes, length, begun - 1, more), state)
            for earlier in range(passes):
                self.is_none(guesser, ahead, around, (earlier, length, misses[earlier], more), states[earlier])
            for shorter in range(1, length):
                wrong = (passes, shorter, begun, misses[passes + shorter] - begun)
                self.is_none(guesser, ahead, around, wrong, state)

    def test_a_state_that_is_not_there(self):
        for state in range(7):
            if state != 3:
                self.is_none(SEVEN, NOTHING, UP, (3, 4, 1, 1), (state,))
        # It comes again, but not behind just so many passes.
        self.is_none(SEVEN, NOTHING, UP, (4, 4, 1, 1), (3,))
        self.is_none(SEVEN, NOTHING, UP, (3, 4, 1, 1), (4,))

    def test_a_state_that_is_left(self):
        # Behind no passes there is state 0, but it never comes again.
        self.is_none(TABLE, NOTHING, UP, (0, 1, 0, 1), (0,))
        self.is_none(TABLE, NOTHING, UP, (0, 1, 0, 1), (1,))
        self.is_none(TABLE, NOTHING, UP, (0, MOST, 0, 1), (0,))
        self.is_one(TABLE, NOTHING, UP, (1, 1, 1, 0), (1,))

    def test_no_round_of_no_passes(self):
        for length in (0, -1, -4):
            self.is_none(SEVEN, NOTHING, UP, (3, length, 1, 0), (3,))
            self.is_none(SEVEN, NOTHING, UP, (7, length, 2, -1), (3,))
            self.is_none(SAME, NOTHING, NOTHING, (0, length, 0, 0), ())

    def test_no_passes_below_0(self):
        self.is_none(SAME, NOTHING, NOTHING, (-1, 1, 0, 0), ())
        self.is_none(TABLE, NOTHING, DOWN, (-1, 1, 0, 0), (0,))
        self.is_none(TABLE, NOTHING, DOWN, (-1, 2, 0, 0), (0,))

    def test_a_round_of_no_events(self):
        self.is_one(TABLE, UP, NOTHING, (0, 1, 1, 0), (1,))
        self.is_one(TABLE, UP, NOTHING, (MOST, 10 ** 30, 1, 0), (1,))
        self.is_none(TABLE, UP, NOTHING, (0, 1, 0, 0), (1,))
        self.is_none(TABLE, UP, NOTHING, (0, 1, 1, 0), (0,))

    def test_truths_are_no_numbers(self):
        self.is_one(TABLE, NOTHING, UP, (1, 1, 1, 0), (1,))
        good = (1, 1, 1, 0)
        for at in range(4):
            self.is_none(TABLE, NOTHING, UP, good[:at] + (bool(good[at]),) + good[at + 1:], (1,))

    def test_other_kinds_in_the_place_of_the_tuple(self):
        others = (
            None, True, False, 0, 1, -1, 10 ** 30, "", "3411", "told", b"", b"\x03\x04\x01\x01", [], [3, 4, 1, 1], {},
            {3: 4, 1: 1}, {3, 4, 1}, object(), (), (3,), (3, 4), (3, 4, 1), (3, 4, 1, 1, 1), ((3, 4, 1, 1),),
            ((3,), (4,), (1,), (1,)), (3, 4, (1, 1)),
        )
        for thing in others:
            self.is_none(SEVEN, NOTHING, UP, thing, (3,))
            for at in range(4):
                told = (3, 4, 1, 1)
                if thing != told[at] or thing is True:
                    self.is_none(SEVEN, NOTHING, UP, told[:at] + (thing,) + told[at + 1:], (3,))

    def test_thousands_deep(self):
        for thing in deep_things():
            self.is_none(SEVEN, NOTHING, UP, thing, (3,))
            self.is_none(SEVEN, NOTHING, UP, (thing,) * 4, (3,))
            for at in range(4):
                told = (3, 4, 1, 1)
                self.is_none(SEVEN, NOTHING, UP, told[:at] + (thing,) + told[at + 1:], (3,))

    def test_what_is_equal_to_anything_is_none(self):
        class Alike:
            def __eq__(self, other):
                return True

        self.is_none(SEVEN, NOTHING, UP, Alike(), (3,))
        self.is_none(SEVEN, NOTHING, UP, (3, 4, 1, Alike()), (3,))

    def test_what_is_no_state_of_the_guesser(self):
        for state in ((True,), [1], (1, 0), (), 1, True, None, ((1,),), "1", deep_things()[1]):
            self.is_none(TABLE, NOTHING, UP, (1, 1, 1, 0), state)
        both = ("either", TABLE, SAME, 1, ONE)
        self.is_one(both, NOTHING, UP, (1, 1, 1, 0), ((1,), (), (1,)))
        for state in (((True,), (), (1,)), ((1,), (), (True,)), ([1], (), (1,)), ((1,), [], (1,)), ((1,), ())):
            self.is_none(both, NOTHING, UP, (1, 1, 1, 0), state)

    def test_ever_so_many_events(self):
        around = times(MOST, row(UP, DOWN))
        self.is_one(TABLE, around, around, (0, 1, 2 * MOST, 2 * MOST), (0,))
        self.is_one(TABLE, around, around, (MOST, MOST, 2 * MOST * (MOST + 1), 2 * MOST * MOST), (0,))
        self.is_none(TABLE, around, around, (MOST, MOST, 2 * MOST * (MOST + 1), 2 * MOST * MOST + 1), (0,))

    def test_what_was_handed_in_is_as_it_was(self):
        told = [3, [4], 1, 1]
        was = copy.deepcopy(told)
        self.is_none(SEVEN, NOTHING, UP, told, (3,))
        self.is_none(SEVEN, NOTHING, UP, (3, told, 1, 1), (3,))
        self.assertEqual(told, was)


class Passes(unittest.TestCase):
    def test_the_state_that_comes_again_does_so(self):
        for guesser, ahead, around in ROUNDS:
            passes, length, misses, more = for_ever(guesser, ahead, around)
            state = passed(guesser, first_state(guesser), written_out(row(ahead, times(passes, around))))[1]
            self.assertEqual(passed_pattern(guesser, state, times(length, around)), (more, state))


if __name__ == "__main__":
    unittest.main()
