"""Stage 5: patterns [1, 13, 14]."""

import collections
import copy
import random
import unittest
from unittest import mock

from plain import (
    KINDS, MIXED, ONE, OWN, SAME, TURNING, Plain, are_wholes, by_squaring, drawn_guesser, drawn_pattern,
    drawn_run, states_come_to, written_out,
)
from wayguess.guessers import first_state
from wayguess.misses import passed
from wayguess.patterns import misses_of, passed_pattern
from wayguess.runs import is_pattern, many_events

import wayguess.patterns

MOST = 10 ** 18
NOTHING = ("row", ())
TABLE = ("table", 1, ONE)
# Seven, five and eight states in a ring each: the states come again behind 280 events, not before.
RINGS = [
    ("table", 1, (tuple(at % 2 for at in range(many)),) + (tuple((at + 1) % many for at in range(many)),) * 2)
    for many in (7, 5, 8)
]
LONG = ("either", RINGS[0], ("either", RINGS[1], RINGS[2], 1, ((0,), (0,), (0,))), 1, ((1,), (0,), (0,)))


def up(place):
    return ("way", place, 1)


def down(place):
    return ("way", place, 0)


def row(*patterns):
    return ("row", patterns)


def times(number, pattern):
    return ("times", number, pattern)


def events_asked(guesser, pattern):
    """What a call tells, and how often it went through each event from each state."""
    asked = collections.Counter()
    real = wayguess.patterns.miss_and_state

    def counted(told, state, place, way):
        asked[place, way, state] += 1
        return real(told, state, place, way)

    with mock.patch.object(wayguess.patterns, "miss_and_state", counted):
        return misses_of(guesser, pattern), asked


class ShortRuns(unittest.TestCase):
    """Patterns whose run is short, against the run gone through event by event."""

    def as_the_run(self, guesser, pattern):
        run = written_out(pattern)
        plain = Plain(guesser)
        misses = sum(plain.along(run))
        self.assertEqual(passed_pattern(guesser, first_state(guesser), pattern), (misses, plain.state()))
        self.assertEqual(misses_of(guesser, pattern), misses)

    def test_ways(self):
        for guesser in KINDS:
            for pattern in (up(0), down(0), up(999), down(12)):
                self.as_the_run(guesser, pattern)

    def test_rows_in_order(self):
        for guesser in KINDS:
            self.as_the_run(guesser, row(up(3), down(3), down(4), up(7)))
            self.as_the_run(guesser, row(row(up(3), row(down(3))), NOTHING, row(down(4), up(7))))

    def test_times(self):
        for guesser in KINDS:
            for number in range(9):
                self.as_the_run(guesser, times(number, row(up(3), down(5), up(3))))
            self.as_the_run(guesser, times(100, row(up(3), down(5), up(3), up(4))))

    def test_drawn_ones(self):
        draw = random.Random(51)
        for guesser in list(KINDS) + [drawn_guesser(draw) for _ in range(150)]:
            for _ in range(3):
                pattern = drawn_pattern(draw)
                self.assertIs(is_pattern(pattern), True)
                if many_events(pattern) <= 400:
                    self.as_the_run(guesser, pattern)

    def test_one_pattern_repeated_here_and_there(self):
        # What is known of a pattern from one place of the whole is used at another, in whatever order.
        draw = random.Random(52)
        for guesser in [LONG, MIXED, OWN] + [drawn_guesser(draw) for _ in range(150)]:
            parts = [row(*[("way", place, way) for place, way in drawn_run(draw, 2)]) for _ in range(2)]
            many = [times(draw.choice((2, 3, 5, 20)), draw.choice(parts)) for _ in range(7)]
            pattern = times(draw.randint(1, 3), row(*many))
            self.as_the_run(guesser, pattern)

    def test_however_the_known_states_stand(self):
        # From how many joints on a way is made straight changes nothing that is told.
        for joints in (0, 1, 2, 3):
            with mock.patch.object(wayguess.patterns, "MOST_JOINTS", joints):
                self.test_one_pattern_repeated_here_and_there()

    def test_from_any_state_on(self):
        draw = random.Random(53)
        for guesser in list(KINDS) + [drawn_guesser(draw) for _ in range(100)]:
            state = passed(guesser, first_state(guesser), drawn_run(draw, 15))[1]
            pattern = drawn_pattern(draw)
            self.assertEqual(passed_pattern(guesser, state, pattern), passed(guesser, state, written_out(pattern)))

    def test_a_state_that_is_never_come_to(self):
        cell = ((0, 0, 1), (0, 0, 1), (1, 1, 2))
        self.assertEqual(passed_pattern(("table", 1, cell), (2,), times(MOST, up(0))), (0, (2,)))
        self.assertEqual(passed_pattern(("table", 1, cell), (2,), times(MOST, down(0))), (1, (0,)))


class EverSoManyEvents(unittest.TestCase):
    def test_times_of_one_way(self):
        for number in (2, 3, 1000, MOST - 1, MOST):
            self.assertEqual(passed_pattern(TABLE, (0,), times(number, up(0))), (1, (1,)))
            self.assertEqual(passed_pattern(TABLE, (0,), times(number, down(0))), (0, (0,)))
            self.assertEqual(misses_of(("same", 0), times(number, up(0))), number)

    def test_times_of_ways_in_turns(self):
        turns = row(up(0), down(0))
        for number in (2, 3, MOST - 1, MOST):
            self.assertEqual(passed_pattern(TABLE, (0,), times(number, turns)), (2 * number, (0,)))
            self.assertEqual(passed_pattern(TABLE, (1,), times(number, turns)), (2 * number - 1, (0,)))

    def test_odd_and_even_passes(self):
        guesser = ("table", 1, TURNING)
        for number in (2, 3, MOST - 1, MOST):
            self.assertEqual(passed_pattern(guesser, (0,), times(number, up(0))), ((number + 1) // 2, (number % 2,)))

    def test_passes_ahead_of_the_loop(self):
        # The counter goes up seven steps, missing four, and then stays.
        guesser = ("table", 1, ((0, 0, 0, 0, 1, 1, 1, 1), (0, 0, 1, 2, 3, 4, 5, 6), (1, 2, 3, 4, 5, 6, 7, 7)))
        for number, misses, state in ((2, 2, 2), (4, 4, 4), (5, 4, 5), (7, 4, 7), (8, 4, 7), (MOST, 4, 7)):
            self.assertEqual(passed_pattern(guesser, (0,), times(number, up(0))), (misses, (state,)))

    def test_every_number_of_passes_round_a_long_loop(self):
        state = first_state(LONG)
        misses = 0
        for number in range(900):
            self.assertEqual(passed_pattern(LONG, first_state(LONG), times(number, up(0))), (misses, state))
            more, state = passed(LONG, state, [(0, 1)])
            misses += more

    def test_times_within_times(self):
        pattern = row(up(0), down(0))
        for level in range(1, 19):
            pattern = times(MOST, pattern)
            self.assertIs(is_pattern(pattern), True)
            self.assertEqual(misses_of(TABLE, pattern), 2 * MOST ** level)
            self.assertEqual(misses_of(SAME, pattern), MOST ** level)

    def test_rows_within_times_within_rows(self):
        draw = random.Random(54)
        tried = 0
        while tried < 60:
            guesser = drawn_guesser(draw)
            pattern = up(draw.randint(0, 3))
            for _ in range(draw.randint(1, 9)):
                beside = ("way", draw.randint(0, 3), draw.randrange(2))
                inner = row(pattern, beside) if draw.randrange(2) else row(beside, pattern, pattern)
                pattern = times(draw.choice((2, 3, MOST, MOST - draw.randint(0, 10 ** 6))), inner)
            events = [(place, way) for place in range(4) for way in (0, 1)]
            states = states_come_to(guesser, events, 150)
            if states is None:
                continue
            tried += 1
            told = by_squaring(guesser, states, pattern)
            for state in (states[0], states[-1], draw.choice(states)):
                self.assertEqual(passed_pattern(guesser, state, pattern), told[state])
            self.assertEqual(misses_of(guesser, pattern), told[states[0]][0])

    def test_parts_without_events(self):
        empty = (
            NOTHING,
            row(NOTHING, NOTHING),
            times(0, up(0)),
            times(MOST, NOTHING),
            times(MOST, times(MOST, row(NOTHING, times(0, up(0))))),
            times(0, times(MOST, up(0))),
            times(MOST, times(0, times(MOST, up(0)))),
        )
        for guesser in KINDS + (LONG,):
            state = passed(guesser, first_state(guesser), [(1, 1), (3, 0), (0, 1)])[1]
            wanted = passed(guesser, state, [(0, 1), (0, 0)] * 3)
            for pattern in empty:
                self.assertEqual(passed_pattern(guesser, state, pattern), (0, state))
                self.assertEqual(misses_of(guesser, pattern), 0)
                around = row(pattern, up(0), pattern, times(MOST, pattern), down(0), pattern)
                self.assertEqual(passed_pattern(guesser, state, times(3, around)), wanted)

    def test_400_parts(self):
        pattern = times(MOST, row(*[times(MOST, row(up(0), down(0)))] * 99))
        self.assertEqual(misses_of(TABLE, pattern), 2 * MOST * MOST * 99)
        pattern = times(MOST, row(*[up(0), down(0)] * 199))
        self.assertEqual(misses_of(TABLE, pattern), 2 * MOST * 199)

    def test_the_kinds_of_what_is_told(self):
        for guesser in KINDS:
            for pattern in (NOTHING, up(0), times(MOST, row(up(3), down(5)))):
                told = passed_pattern(guesser, first_state(guesser), pattern)
                self.assertIs(type(told), tuple)
                self.assertEqual(len(told), 2)
                self.assertTrue(are_wholes(told))
                self.assertIs(type(misses_of(guesser, pattern)), int)

    def test_what_was_handed_in_is_as_it_was(self):
        for guesser in KINDS:
            handed = (guesser, first_state(guesser), times(MOST, row(up(3), times(3, down(5)))))
            was = copy.deepcopy(handed)
            first = passed_pattern(*handed)
            self.assertEqual(handed, was)
            self.assertEqual(passed_pattern(*handed), first)


class AtMostOnce(unittest.TestCase):
    """In one call a repeated pattern is gone through from each state at most once."""

    def by_squaring_of_long(self, pattern):
        states = states_come_to(LONG, [(0, 1)], 280)
        return by_squaring(LONG, states, pattern)[first_state(LONG)][0]

    def test_a_loop_is_gone_through_once(self):
        asked = events_asked(LONG, times(MOST, up(0)))[1]
        self.assertEqual(len(asked), 280)
        self.assertEqual(set(asked.values()), {1})

    def test_no_further_than_the_pattern_goes(self):
        asked = events_asked(LONG, times(9, up(0)))[1]
        self.assertEqual(sum(asked.values()), 9)
        asked = events_asked(LONG, times(2, times(3, times(4, up(0)))))[1]
        self.assertEqual(sum(asked.values()), 24)

    def test_within_other_repeated_patterns(self):
        pattern = up(0)
        for place in range(1, 10):
            pattern = times(MOST - place, row(pattern, up(place)))
        misses, asked = events_asked(LONG, pattern)
        # Each event stands once in the whole: from each state it is asked at most once.
        self.assertEqual(set(asked.values()), {1})
        self.assertLessEqual(len(asked), 280 * 10)
        self.assertEqual(misses, self.by_squaring_of_long(pattern))

    def test_the_same_pattern_again(self):
        # Written otherwise, but the same ways: what is known of the one is known of the other.
        once = times(MOST, row(up(0), down(1)))
        alike = times(MOST - 1, row(row(up(0)), NOTHING, times(1, down(1))))
        asked = events_asked(LONG, row(once, alike, times(2, once)))[1]
        self.assertEqual(set(asked.values()), {1})
        asked = events_asked(LONG, row(*[times(MOST - at, up(0)) for at in range(100)]))[1]
        self.assertEqual(set(asked.values()), {1})
        asked = events_asked(LONG, row(*[times(3, up(0)) for _ in range(300)]))[1]
        self.assertEqual(set(asked.values()), {1})

    def test_many_repeated_patterns_begun_from_many_states(self):
        parts = []
        for place in range(60):
            parts.append(times(MOST - place, up(place)))
            parts.append(up(900))
        pattern = times(MOST, row(*parts))
        misses, asked = events_asked(LONG, pattern)
        for (place, way, state), often in asked.items():
            self.assertEqual((way, often if place < 900 else 1), (1, 1))
        self.assertLessEqual(sum(asked.values()), 280 * 60 + 280 * 60)
        self.assertEqual(misses, self.by_squaring_of_long(pattern))

    def test_states_met_from_the_last_one_on(self):
        # Ahead of each pass of the first row the state is the one ahead of the last one in the loop of 280 states.
        back = times(280, row(times(2, up(0)), times(277, up(1))))
        pattern = row(back, times(MOST, row(*[times(MOST - at, up(0)) for at in range(30)], up(2))))
        steps = []
        real = wayguess.patterns.Walk.lengthen

        def counted(walk, body, chain, at):
            steps.append(at)
            return real(walk, body, chain, at)

        with mock.patch.object(wayguess.patterns.Walk, "lengthen", counted):
            misses, asked = events_asked(LONG, pattern)
        self.assertEqual(misses, self.by_squaring_of_long(pattern))
        self.assertEqual(set(asked.values()), {1})
        self.assertLess(len(steps), 5 * 280 * 32)

    def test_nothing_is_kept_from_one_call_to_the_next(self):
        first = events_asked(LONG, times(MOST, up(0)))
        self.assertEqual(events_asked(LONG, times(MOST, up(0))), first)


class Beyond(unittest.TestCase):
    """The interface: somewhat beyond a limit no error is raised."""

    def test_more_than_twenty_within_one_another(self):
        pattern = up(0)
        for _ in range(30):
            pattern = times(3, row(pattern))
        self.assertEqual(misses_of(("same", 0), pattern), 3 ** 30)

    def test_numbers_and_places_beyond(self):
        self.assertEqual(misses_of(("same", 0), times(10 ** 20, up(1000))), 10 ** 20)
        self.assertEqual(misses_of(("same", 0), row(times(-1, up(0)), up(1))), 1)

    def test_more_than_400_parts(self):
        self.assertEqual(misses_of(("same", 0), row(*[up(0)] * 900)), 900)


if __name__ == "__main__":
    unittest.main()
