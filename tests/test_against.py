"""Stage 8: one against another [1, 19, 20, 21]."""

import copy
import random
import time
import unittest

from deep import deep_things
from plain import (
    ANYTHING, ODD, ONE, SAME, TABLE, TURNING, TWO, are_wholes, difference, drawn_pairs, pair_behind, pairs_come_to,
)
from wayguess.against import ahead_by, is_bound
from wayguess.guessers import first_state, is_guesser
from wayguess.misses import missed, passed

DOWN = ("same", 0)
# These cells learn the first way and keep it; they guess 1, or 0, until then.
FIRST_UP = ((1, 0, 1), (1, 1, 2), (2, 1, 2))
FIRST_DOWN = ((0, 0, 1), (1, 1, 2), (2, 1, 2))
DRAWN = drawn_pairs(81, 250, 120)


def run_difference(one, other, run):
    return sum(missed(one, run)) - sum(missed(other, run))


def greatest_plainly(one, other, places, pairs):
    """For each pair the greatest difference of the runs to it, or None where it has no bound."""
    first = pairs[0]
    best = {first: 0}
    for _ in range(len(pairs) + 1):
        was = dict(best)
        for pair, number in was.items():
            for place in places:
                for way in (0, 1):
                    behind = pair_behind(one, other, pair, place, way)
                    more = number + difference(one, other, pair, place, way)
                    best[behind] = max(best.get(behind, more), more)
        if best == was:
            return best
    return None


def is_bound_plainly(one, other, places, paper, number):
    """The checker once more, of papers whose rows are known to be (state, state, number)."""
    known = {row[:2]: row[2] for row in paper}
    first = (first_state(one), first_state(other))
    if len(known) != len(paper) or first not in known or known[first] < 0 or max(known.values()) > number:
        return False
    for pair, height in known.items():
        for place in places:
            for way in (0, 1):
                behind = pair_behind(one, other, pair, place, way)
                if behind not in known or known[behind] < height + difference(one, other, pair, place, way):
                    return False
    return True


class AheadBy(unittest.TestCase):
    def at_most(self, one, other, places, number):
        told = ahead_by(one, other, places)
        self.assertEqual(told[:2], ("at most", number))
        self.is_right_bound(one, other, places, told, pairs_come_to(one, other, places, 3000))

    def is_right_bound(self, one, other, places, told, pairs):
        word, number, run, paper = told
        self.assertEqual(run_difference(one, other, run), number)
        self.assertTrue(all(event[0] in places for event in run))
        self.assertEqual(paper, sorted(paper))
        self.assertEqual([row[:2] for row in paper], sorted(pairs))
        self.assertTrue(is_bound_plainly(one, other, places, paper, number))
        self.assertFalse(is_bound_plainly(one, other, places, paper, number - 1))

    def ever_more(self, one, other, places, told=None):
        word, run, loop = told or ahead_by(one, other, places)
        self.assertEqual(word, "ever more")
        self.assertGreaterEqual(len(loop), 1)
        self.assertTrue(all(event[0] in places for event in run + loop))
        state = passed(one, first_state(one), run)[1]
        other_state = passed(other, first_state(other), run)[1]
        misses, behind = passed(one, state, loop)
        other_misses, other_behind = passed(other, other_state, loop)
        self.assertEqual((behind, other_behind), (state, other_state))
        self.assertGreater(misses - other_misses, 0)

    def test_written_out(self):
        self.assertEqual(ahead_by(SAME, SAME, [4]), ("at most", 0, [], [((), (), 0)]))
        one = ("table", 1, FIRST_UP)
        other = ("table", 1, FIRST_DOWN)
        paper = [((0,), (0,), 0), ((1,), (1,), 1), ((2,), (2,), -1)]
        self.assertEqual(ahead_by(one, other, [4]), ("at most", 1, [(4, 0)], paper))
        self.assertEqual(ahead_by(("same", 1), ("same", 0), [4]), ("ever more", [], [(4, 0)]))
        self.assertEqual(ahead_by(("same", 0), ("same", 1), [4]), ("ever more", [], [(4, 1)]))

    def test_one_for_each_cell(self):
        for size in (1, 2, 3, 5):
            one = ("table", size, FIRST_UP)
            other = ("table", size, FIRST_DOWN)
            self.at_most(one, other, list(range(size)), size)
            self.at_most(other, one, list(range(size)), size)
            self.at_most(one, other, [0], 1)
        self.at_most(("table", 5, FIRST_UP), ("table", 5, FIRST_DOWN), [0, 1, 6, 10], 2)

    def test_the_same_guesser_against_itself(self):
        for guesser in (SAME, DOWN, TABLE, ("mixed", 3, 2, ONE), ("joined", 2, 1, ODD), ("own", 2, 2, TURNING)):
            told = ahead_by(guesser, guesser, [1, 2])
            self.assertEqual(told[:3], ("at most", 0, []))
            self.assertEqual([row[2] for row in told[3]], [0] * len(told[3]))
            self.at_most(guesser, guesser, [1, 2], 0)

    def test_alike_in_other_forms(self):
        self.at_most(("table", 3, TWO), ("mixed", 3, 0, TWO), [0, 1, 2], 0)
        self.at_most(("either", TABLE, TABLE, 2, ODD), TABLE, [0, 1], 0)

    def test_at_most_0_just_where_they_guess_alike(self):
        # Where they first don't guess alike each is ahead behind one of the two ways.
        for one, other, places, pairs in DRAWN:
            differ = any(difference(one, other, pair, place, 0) != 0 for pair in pairs for place in places)
            self.assertIs(ahead_by(one, other, places)[:2] == ("at most", 0), not differ)
            self.assertIs(ahead_by(other, one, places)[:2] == ("at most", 0), not differ)

    def test_a_bound_that_only_a_long_run_has(self):
        # State by state the first cell guesses 1, the second one 0, until both guess 0 for ever.
        many = 7
        chain = tuple(range(1, many + 1)) + (many,)
        one = ("table", 1, ((1,) * many + (0,), chain, chain))
        self.at_most(one, DOWN, [3], many)
        self.assertEqual(ahead_by(one, DOWN, [3])[2], [(3, 0)] * many)
        self.at_most(DOWN, one, [3], many)
        self.at_most(("table", 3, one[2]), DOWN, [0, 1, 2], 3 * many)

    def test_ever_more(self):
        self.ever_more(("table", 1, ONE), DOWN, [3])
        self.ever_more(DOWN, ("table", 1, ONE), [3])
        self.ever_more(("table", 1, TURNING), ("table", 1, ONE), [3])
        self.ever_more(("table", 2, ONE), ("table", 4, ONE), [0, 2])
        self.at_most(("table", 2, ONE), ("table", 4, ONE), [0, 1], 0)
        self.ever_more(("mixed", 2, 1, ONE), ("own", 2, 1, ONE), [0, 1])

    def test_ever_more_behind_a_run_and_round_a_long_loop(self):
        # The ring is come to behind four ways 1; in it one way of five is guessed wrong.
        guesses = (0,) * 7 + (1,)
        straight = (0, 0, 0, 0, 4, 4, 4, 4)
        aside = (1, 2, 3, 4, 5, 6, 7, 4)
        other = (guesses[:-1] + (0,), straight, aside)
        told = ahead_by(("table", 1, (guesses, straight, aside)), ("table", 1, other), [5])
        self.ever_more(("table", 1, (guesses, straight, aside)), ("table", 1, other), [5])
        self.assertGreaterEqual(len(told[1]), 4)
        self.assertGreaterEqual(len(told[2]), 4)

    def test_against_all_runs_plainly(self):
        words = []
        numbers = set()
        for one, other, places, pairs in DRAWN:
            told = ahead_by(one, other, places)
            best = greatest_plainly(one, other, places, pairs)
            words.append(told[0])
            if best is None:
                self.ever_more(one, other, places, told)
                continue
            self.assertEqual(told[:2], ("at most", max(best.values())))
            self.is_right_bound(one, other, places, told, pairs)
            numbers.add(told[1])
        self.assertGreater(words.count("at most"), 40)
        self.assertGreater(words.count("ever more"), 40)
        self.assertGreater(len(numbers), 2)

    def test_no_run_of_all_short_ones_has_more(self):
        one = ("mixed", 2, 1, FIRST_UP)
        other = ("mixed", 2, 1, FIRST_DOWN)
        number = ahead_by(one, other, [0, 1])[1]
        runs = [[]]
        for _ in range(5):
            runs = [run + [(place, way)] for run in runs for place in (0, 1) for way in (0, 1)]
            for run in runs:
                self.assertLessEqual(run_difference(one, other, run), number)

    def test_all_thousand_places(self):
        self.at_most(("table", 2, FIRST_UP), ("table", 2, FIRST_DOWN), list(range(1000)), 2)
        self.ever_more(("table", 16, ONE), ("table", 15, ONE), [0, 15])

    def test_always_the_same(self):
        for one, other, places, pairs in DRAWN[:60]:
            self.assertEqual(ahead_by(one, other, places), ahead_by(one, other, places))

    def test_the_kinds_of_what_is_told(self):
        for one, other, places, pairs in DRAWN:
            told = ahead_by(one, other, places)
            self.assertIs(type(told), tuple)
            lists = told[2:] if told[0] == "at most" else told[1:]
            self.assertEqual(len(lists), 2)
            for row in lists:
                self.assertIs(type(row), list)
                self.assertTrue(all(type(item) is tuple and are_wholes(item) for item in row))
            if told[0] == "at most":
                self.assertIs(type(told[1]), int)
                self.assertGreaterEqual(told[1], 0)

    def test_told_lists_changed_by_the_asker_change_no_later_answer(self):
        for one, other in ((SAME, SAME), (("table", 2, FIRST_UP), ("table", 2, FIRST_DOWN)), (SAME, DOWN)):
            wanted = copy.deepcopy(ahead_by(one, other, [0, 1]))
            told = ahead_by(one, other, [0, 1])
            for row in told:
                if isinstance(row, list):
                    row.append((0, 0))
                    row.reverse()
            self.assertEqual(ahead_by(one, other, [0, 1]), wanted)

    def test_what_was_handed_in_is_as_it_was(self):
        for one, other in ((SAME, DOWN), (TABLE, TABLE), (TABLE, SAME)):
            places = [0, 1, 7]
            was = copy.deepcopy((one, other, places))
            ahead_by(one, other, places)
            self.assertEqual((one, other, places), was)

    def test_a_row_of_places_that_becomes_another_one(self):
        places = [0, 1]
        told = ahead_by(("table", 2, FIRST_UP), ("table", 2, FIRST_DOWN), places)
        wanted = copy.deepcopy(told)
        places.clear()
        self.assertEqual(told, wanted)


ONE_UP = ("table", 2, FIRST_UP)
ONE_DOWN = ("table", 2, FIRST_DOWN)
PLACES = [0, 1]
NUMBER = 2
PAPER = ahead_by(ONE_UP, ONE_DOWN, PLACES)[3]


class IsBound(unittest.TestCase):
    def lets_by(self, paper, number=NUMBER, both=(ONE_UP, ONE_DOWN), places=PLACES):
        self.assertIs(is_bound(both[0], both[1], places, paper, number), True)

    def refuses(self, paper, number=NUMBER, both=(ONE_UP, ONE_DOWN), places=PLACES):
        self.assertIs(is_bound(both[0], both[1], places, paper, number), False)

    def test_told_papers(self):
        self.lets_by(PAPER)
        self.lets_by(PAPER, NUMBER + 1)
        self.lets_by(PAPER, 10 ** 30)
        self.refuses(PAPER, NUMBER - 1)
        self.refuses(PAPER, 0)
        self.refuses(PAPER, -1)
        for one, other, places, pairs in DRAWN:
            told = ahead_by(one, other, places)
            if told[0] == "at most":
                self.lets_by(told[3], told[1], (one, other), places)
                self.lets_by(told[3], told[1] + 1, (one, other), places)
                self.refuses(told[3], told[1] - 1, (one, other), places)

    def test_in_any_order(self):
        self.lets_by(PAPER[::-1])
        self.lets_by(PAPER[4:] + PAPER[:4])

    def test_all_numbers_raised(self):
        higher = [(one, other, number + 3) for one, other, number in PAPER]
        self.lets_by(higher, NUMBER + 3)
        self.refuses(higher, NUMBER + 2)
        lower = [(one, other, number - 1) for one, other, number in PAPER]
        self.refuses(lower)

    def test_the_first_states_have_a_number_from_0_on(self):
        both = ("table", 1, FIRST_UP), ("table", 1, FIRST_DOWN)
        self.lets_by([((0,), (0,), 0), ((1,), (1,), 1), ((2,), (2,), 1)], 1, both)
        self.refuses([((0,), (0,), -1), ((1,), (1,), 1), ((2,), (2,), 1)], 1, both)
        self.refuses([((1,), (1,), 1), ((2,), (2,), 1)], 1, both)
        self.lets_by([((0,), (0,), 1), ((1,), (1,), 2), ((2,), (2,), 2)], 2, both)

    def test_a_number_changed(self):
        tight = 0
        for at, (one, other, number) in enumerate(PAPER):
            for more in (-5, -1, 1, 5, 10 ** 20):
                paper = PAPER[:at] + [(one, other, number + more)] + PAPER[at + 1:]
                wanted = is_bound_plainly(ONE_UP, ONE_DOWN, PLACES, paper, NUMBER)
                self.assertIs(is_bound(ONE_UP, ONE_DOWN, PLACES, paper, NUMBER), wanted)
                tight += not wanted
        self.assertGreater(tight, 20)

    def test_a_row_left_out(self):
        for at in range(len(PAPER)):
            self.refuses(PAPER[:at] + PAPER[at + 1:])
        self.refuses([])

    def test_a_row_twice(self):
        for at in range(len(PAPER)):
            self.refuses(PAPER + [PAPER[at]])
            self.refuses(PAPER[:at] + [PAPER[at]] + PAPER[at:])
            self.refuses(PAPER + [PAPER[at][:2] + (PAPER[at][2] - 1,)])

    def test_turned_about(self):
        self.refuses([(other, one, -number) for one, other, number in PAPER[:1]])
        unlike = (("table", 2, FIRST_UP), ("mixed", 2, 0, FIRST_DOWN))
        paper = ahead_by(*unlike, PLACES)[3]
        self.lets_by(paper, 2, unlike)
        self.refuses([(other, one, number) for one, other, number in paper], 2, unlike)
        self.refuses([(number, one, other) for one, other, number in paper], 2, unlike)
        self.refuses([tuple(row[::-1]) for row in paper], 2, unlike)

    def test_rows_of_another_kind_or_length(self):
        for at, row in enumerate(PAPER):
            others = (list(row), row[:2], row + (0,), (row,), (), None, 0, "row", row[0], {1: 2}, row[2])
            for other in others:
                self.refuses(PAPER[:at] + [other] + PAPER[at + 1:])
                self.refuses(PAPER + [other])

    def test_numbers_of_another_kind(self):
        for at, row in enumerate(PAPER):
            for other in (None, True, False, "1", (1,), [1], (), {}, b"1", row):
                self.refuses(PAPER[:at] + [row[:2] + (other,)] + PAPER[at + 1:])

    def test_states_of_another_kind(self):
        for at, row in enumerate(PAPER):
            for spot in (0, 1):
                others = (
                    None, True, 0, "00", b"00", list(row[spot]), row[spot] + (0,), row[spot][:1], (), (row[spot],),
                    (0, row[spot]), {0: 0}, (None, None), ("0", "0"), ([0], [0]), ((0,), (0,)),
                )
                for other in others:
                    wrong = row[:spot] + (other,) + row[spot + 1:]
                    self.refuses(PAPER[:at] + [wrong] + PAPER[at + 1:])
                    self.refuses(PAPER + [wrong])

    def test_a_truth_in_the_place_of_a_state(self):
        both = ("table", 1, ONE), ("table", 1, ONE)
        self.lets_by([((0,), (0,), 0), ((1,), (1,), 0)], 0, both)
        self.refuses([((False,), (0,), 0), ((1,), (1,), 0)], 0, both)
        self.refuses([((0,), (0,), 0), ((1,), (True,), 0)], 0, both)
        self.refuses([((0,), (0,), 0), ((1,), (1,), False)], 0, both)

    def test_a_number_that_no_state_of_that_guesser_has(self):
        for wrong in ((3, 0), (0, 3), (-1, 0), (0, -1), (10 ** 20, 0)):
            self.refuses(PAPER + [(wrong, (0, 0), -5)])
            self.refuses(PAPER + [((0, 0), wrong, -5)])
        both = ("mixed", 2, 1, ((0,), (0,), (0,))), ("own", 2, 2, ((0,), (0,), (0,)))
        told = ahead_by(*both, PLACES)
        self.assertEqual(told[1], 0)
        self.lets_by(told[3], 0, both)
        for number in (2, -1, True, None, (0,)):
            self.refuses(told[3] + [((number, (0, 0)), ((0, 0), (0,) * 4), -9)], 0, both)
        for numbers in ((4, 0), (0, 4), (-1, 0), (True, 0), (0,), (0, 0, 0), [0, 0], 0):
            self.refuses(told[3] + [((0, (0, 0)), (numbers, (0,) * 4), -9)], 0, both)

    def test_states_of_every_kind(self):
        chooser = ("either", ("mixed", 2, 1, ONE), ("own", 1, 1, TURNING), 2, ((0,), (0,), (0,)))
        told = ahead_by(chooser, chooser, [0])
        self.lets_by(told[3], 0, (chooser, chooser), [0])
        state = first_state(chooser)
        self.assertEqual(state, ((0, (0, 0)), ((0,), (0, 0)), (0, 0)))
        wrong = [
            (state[0], state[1]), state + (0,), (state[0], state[1], (0,)), (state[0], state[1], (0, 1)),
            ((2, (0, 0)), state[1], state[2]), ((0, (0, 2)), state[1], state[2]), ((0, (0,)), state[1], state[2]),
            (state[0], ((2,), (0, 0)), state[2]), (state[0], (0, (0, 0)), state[2]), (state[1], state[0], state[2]),
            list(state), ([0, (0, 0)], state[1], state[2]), ((0, [0, 0]), state[1], state[2]), (), ((), (), ()),
            (state[0], ((0,), (0, False)), state[2]), ((False, (0, 0)), state[1], state[2]),
        ]
        for thing in wrong:
            self.refuses(told[3] + [(thing, state, -9)], 0, (chooser, chooser), [0])
            self.refuses(told[3] + [(state, thing, -9)], 0, (chooser, chooser), [0])

    def test_the_state_of_same(self):
        self.lets_by([((), (), 0)], 0, (SAME, SAME))
        self.refuses([((), (0,), 0)], 0, (SAME, SAME))
        self.refuses([([], (), 0)], 0, (SAME, SAME))
        self.refuses([((), (), 0)], 0, (SAME, DOWN))
        self.refuses([((), (), 0), ((), (0,), 0)], 0, (SAME, SAME))

    def test_rows_of_further_pairs(self):
        # Both are states of the guessers, but can't be come to: what holds of the others must hold of them.
        further = ((1, 0), (2, 0))
        self.assertNotIn(further, [row[:2] for row in PAPER])
        self.refuses(PAPER + [further + (-9,)])
        both = ("table", 1, ((0, 1), (0, 1), (0, 1))), ("table", 1, ((0, 0), (0, 1), (0, 1)))
        self.assertEqual(ahead_by(*both, [0])[3], [((0,), (0,), 0)])
        self.lets_by([((0,), (0,), 0)], 0, both, [0])
        self.lets_by([((0,), (0,), 0), ((0,), (1,), 0)], 0, both, [0])
        self.lets_by([((0,), (0,), 0), ((0,), (1,), -7)], 0, both, [0])
        self.refuses([((0,), (0,), 0), ((0,), (1,), 1)], 0, both, [0])
        # From there the difference would rise for ever.
        self.refuses([((0,), (0,), 0), ((1,), (0,), 0)], 0, both, [0])
        self.refuses([((0,), (0,), 0), ((1,), (0,), -7)], 0, both, [0])

    def test_a_bound_where_there_is_none(self):
        self.refuses([((), (), 0)], 10 ** 9, (SAME, DOWN))
        one = ("table", 1, ONE)
        for high in (0, 1, 5):
            paper = [((0,), (), 0), ((1,), (), high)]
            self.refuses(paper, 5, (one, DOWN))

    def test_other_places(self):
        self.lets_by(PAPER, NUMBER, (ONE_UP, ONE_DOWN), [0])
        self.lets_by(PAPER, NUMBER, (ONE_UP, ONE_DOWN), list(range(1000)))
        few = ahead_by(ONE_UP, ONE_DOWN, [0])[3]
        self.lets_by(few, 1, (ONE_UP, ONE_DOWN), [0])
        self.lets_by(few, 1, (ONE_UP, ONE_DOWN), [0, 2, 998])
        self.refuses(few, 1, (ONE_UP, ONE_DOWN), [0, 1])
        self.refuses(few, 1, (ONE_UP, ONE_DOWN), [0, 2, 999])

    def test_drawn_changes_against_the_checker_written_once_more(self):
        draw = random.Random(82)
        told = {True: 0, False: 0}
        for one, other, places, pairs in DRAWN:
            paper = [pair + (draw.randint(-1, 2),) for pair in pairs]
            best = greatest_plainly(one, other, places, pairs)
            if best is not None:
                paper = [pair + (best[pair],) for pair in pairs]
                at = draw.randrange(len(paper))
                paper[at] = paper[at][:2] + (paper[at][2] + draw.choice((0, 1, -1)),)
            if draw.randrange(4) == 0:
                paper.pop(draw.randrange(len(paper)))
            if paper:
                number = max(row[2] for row in paper) - draw.choice((0, 0, 0, 1))
                wanted = is_bound_plainly(one, other, places, paper, number)
                self.assertIs(is_bound(one, other, places, paper, number), wanted)
                told[wanted] += 1
        self.assertGreater(min(told.values()), 15)

    def test_what_is_no_list(self):
        for paper in (tuple(PAPER), None, (), 0, "paper", {}, {PAPER[0]: 0}):
            self.refuses(paper)

    def test_anything_in_the_list(self):
        for thing in ANYTHING:
            self.refuses([thing])
            self.refuses(PAPER + [thing])
            self.refuses([thing] + PAPER)
            self.refuses(PAPER + [(thing, thing, thing)])

    def test_thousands_deep(self):
        for thing in deep_things():
            self.refuses([thing])
            self.refuses(PAPER + [thing])
            self.refuses(PAPER + [(thing, (0, 0), 0)])
            self.refuses(PAPER + [((0, 0), thing, 0)])
            self.refuses(PAPER + [((0, thing), (0, 0), 0)])
            self.refuses(PAPER + [((0, 0), (0, 0), thing)])
            chooser = ("either", SAME, SAME, 1, ((0,), (0,), (0,)))
            self.refuses([((thing, (), (0,)), ((), (), (0,)), 0)], 0, (chooser, chooser))

    def test_what_is_equal_to_anything_is_none(self):
        class Alike:
            def __eq__(self, other):
                return True

            def __hash__(self):
                return 0

        self.refuses(PAPER + [Alike()])
        self.refuses([((0, Alike()),) + PAPER[0][1:]] + PAPER[1:])
        self.refuses([PAPER[0][:2] + (Alike(),)] + PAPER[1:])

    def test_what_was_handed_in_stays(self):
        paper = list(PAPER) + [[1, [2]], (None, [3])]
        places = [0, 1]
        was = copy.deepcopy((paper, places))
        self.refuses(paper, NUMBER, places=places)
        self.assertEqual((paper, places), was)
        paper = list(PAPER)
        self.lets_by(paper, NUMBER, places=places)
        self.assertEqual((paper, places), (PAPER, [0, 1]))
        paper.clear()
        self.lets_by(PAPER)


class Many(unittest.TestCase):
    def test_some_3000_pairs_within_a_short_time(self):
        begun = time.process_time()
        one = ("table", 7, FIRST_UP)
        other = ("table", 7, FIRST_DOWN)
        told = ahead_by(one, other, list(range(7)))
        self.assertEqual(told[:2], ("at most", 7))
        self.assertEqual(len(told[3]), 3 ** 7)
        self.assertIs(is_bound(one, other, list(range(7)), told[3], 7), True)
        self.assertIs(is_bound(one, other, list(range(7)), told[3], 6), False)
        eleven = ("table", 11, ONE)
        self.assertEqual(ahead_by(eleven, ("either", eleven, eleven, 7, TWO), list(range(1000)))[:2], ("at most", 0))
        self.assertEqual(ahead_by(eleven, SAME, list(range(11)))[0], "ever more")
        self.assertLess(time.process_time() - begun, 30)

    def test_a_long_ring(self):
        # Eight, seven and five states in a ring each: both states come back behind 280 events and no sooner.
        rings = []
        for many in (8, 7, 5):
            behind = tuple((at + 1) % many for at in range(many))
            rings.append(("table", 1, ((0,) * (many - 1) + (1,), behind, behind)))
        one = ("either", rings[0], rings[1], 1, ((0,), (0,), (0,)))
        other = ("either", rings[0], rings[2], 1, ((0,), (0,), (0,)))
        told = ahead_by(one, other, [0])
        self.assertEqual(told[:3], ("at most", 0, []))
        self.assertEqual(len(told[3]), 280)
        third = ("either", rings[1], rings[2], 1, ((0,), (0,), (0,)))
        self.assertEqual(ahead_by(one, third, [0])[0], "ever more")


class Beyond(unittest.TestCase):
    """The interface: somewhat beyond a limit no error is raised."""

    def test_no_error(self):
        self.assertEqual(ahead_by(SAME, DOWN, []), ("at most", 0, [], [((), (), 0)]))
        self.assertIs(is_bound(SAME, DOWN, [], [((), (), 0)], 0), True)
        self.assertEqual(ahead_by(SAME, DOWN, [1000])[0], "ever more")
        deeper = ("either", ("either", ("either", SAME, TABLE, 1, ONE), SAME, 1, ONE), SAME, 1, ONE)
        self.assertIs(is_guesser(deeper), False)
        told = ahead_by(deeper, deeper, [0, 1])
        self.assertIs(is_bound(deeper, deeper, [0, 1], told[3], told[1]), True)


if __name__ == "__main__":
    unittest.main()
