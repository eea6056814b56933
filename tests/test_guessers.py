"""Stage 3: guessers [1, 7, 8, 9, 10]."""

import copy
import random
import unittest

from deep import DEEP, deep_things
from plain import (
    DEEP_EITHER, EITHER, JOINED, KINDS, MIXED, ODD, ONE, OWN, SAME, TABLE, TURNING, TWO, Plain, are_wholes,
    drawn_guesser, drawn_run,
)
from wayguess.cells import counter
from wayguess.guessers import first_state, guess, is_guesser, is_state, learned, many_cells, rests_of

WITH_LAST_WAYS = ("mixed", "joined", "own")
OTHER_KINDS = (
    None, True, False, 0, 1, -1, 10 ** 30, "", "same", "same 1", b"", b"same", [], ["same", 1], {}, {"same": 1}, {1},
    (), ((),), object(),
)


def of_every_kind(size=2, length=1, cell=ONE):
    """One guesser of each kind that has cells."""
    told = [(word, size, length, cell) for word in WITH_LAST_WAYS]
    return told + [("table", size, cell), ("either", SAME, SAME, size, cell)]


def within(many, inmost=SAME):
    """Many either guessers around the inmost one, which stands first, second, first .."""
    thing = inmost
    for at in range(many):
        thing = ("either", thing, SAME, 1, ONE) if at % 2 else ("either", SAME, thing, 1, ONE)
    return thing


def state_behind(guesser, run):
    state = first_state(guesser)
    for place, way in run:
        state = learned(guesser, state, place, way)
    return state


class IsGuesser(unittest.TestCase):
    def is_one(self, thing):
        self.assertIs(is_guesser(thing), True, repr(thing)[:200])

    def is_none(self, thing):
        self.assertIs(is_guesser(thing), False)

    def test_each_kind(self):
        for guesser in KINDS:
            self.is_one(guesser)
        for guesser in of_every_kind():
            self.is_one(guesser)

    def test_same(self):
        self.is_one(("same", 0))
        self.is_one(("same", 1))
        for wrong in (2, -1, 10 ** 20, True, False, None, "0", (0,), [0], ONE):
            self.is_none(("same", wrong))

    def test_sizes(self):
        for size in (1, 2, 15, 16):
            for guesser in of_every_kind(size):
                self.is_one(guesser)
        for size in (0, 17, -1, 18, 10 ** 20):
            for guesser in of_every_kind(size, 0):
                self.is_none(guesser)

    def test_lengths(self):
        for length in range(7):
            for word in WITH_LAST_WAYS:
                self.is_one((word, 1, length, ONE))
        for length in (-1, 7, -2, 8, 10 ** 6, 10 ** 30):
            for word in WITH_LAST_WAYS:
                self.is_none((word, 1, length, ONE))

    def test_joined_of_at_most_64_cells(self):
        for size in range(1, 17):
            for length in range(7):
                self.assertIs(is_guesser(("joined", size, length, ONE)), size * 2 ** length <= 64, (size, length))

    def test_mixed_and_own_of_any_size_and_length(self):
        for size in range(1, 17):
            for length in range(7):
                self.is_one(("mixed", size, length, ONE))
                self.is_one(("own", size, length, ONE))

    def test_truths_are_no_numbers(self):
        for truth in (True, False):
            for guesser in of_every_kind(truth, 1) + of_every_kind(2, truth)[:3]:
                self.is_none(guesser)
            for cell in (((truth,), (0,), (0,)), ((0, 1), (0, truth), (1, 1)), truth):
                for guesser in of_every_kind(cell=cell):
                    self.is_none(guesser)

    def test_other_kinds_in_the_place_of_numbers(self):
        for thing in (None, "", "1", b"1", [], [1], (), (1,), {}, {1: 1}, ONE, SAME, object()):
            for guesser in of_every_kind(thing) + of_every_kind(2, thing)[:3]:
                self.is_none(guesser)

    def test_lists_in_the_place_of_tuples(self):
        for guesser in KINDS + tuple(of_every_kind()):
            self.is_none(list(guesser))
        for cell in ([(0,), (0,), (0,)], ([0], (0,), (0,)), ((0,), (0,), [0])):
            for guesser in of_every_kind(cell=cell):
                self.is_none(guesser)
        self.is_none(("either", ["same", 1], SAME, 1, ONE))
        self.is_none(("either", SAME, ["same", 1], 1, ONE))
        self.is_none(("either", SAME, ("table", 1, list(ONE)), 1, ONE))

    def test_parts_more_or_fewer(self):
        for guesser in KINDS + tuple(of_every_kind()):
            for many in range(len(guesser)):
                self.is_none(guesser[:many])
            for more in (0, 1, None, ONE, SAME, ()):
                self.is_none(guesser + (more,))
            self.is_none(guesser[1:])
            self.is_none(guesser + guesser)

    def test_parts_of_the_other_kinds(self):
        self.is_none(("same", 1, ONE))
        self.is_none(("table", 1, 1, ONE))
        for word in WITH_LAST_WAYS:
            self.is_none((word, 1, ONE))
        self.is_none(("either", 1, ONE))
        self.is_none(("either", 1, 1, ONE))
        self.is_none(("either", SAME, 1, ONE))
        self.is_none(("either", SAME, SAME, ONE, 1))
        self.is_none(("either", SAME, SAME, 1, 1, ONE))

    def test_what_is_no_cell(self):
        wrong = (
            (), ((),), ((), (), ()), ((2,), (0,), (0,)), ((0,), (1,), (0,)), ((0,), (0,), (-1,)), ((0,), (0,)),
            ((0, 1), (0,), (0,)), ((0,), (0,), (0,), (0,)), "c2.1", None, 1, SAME, ("table", 1, ONE),
        )
        for cell in wrong:
            for guesser in of_every_kind(cell=cell):
                self.is_none(guesser)

    def test_cells_of_any_number_of_states(self):
        for many in (1, 8, 9, 30, 400):
            cell = ((1,) * many, (many - 1,) * many, (0,) * many)
            for guesser in of_every_kind(cell=cell):
                self.is_one(guesser)

    def test_how_many_cells_is_not_looked_at(self):
        joined = ("joined", 16, 2, ONE)
        both = ("either", joined, joined, 16, ONE)
        self.is_one(("either", both, both, 16, ONE))

    def test_three_deep(self):
        for inmost in (SAME, TABLE, MIXED, JOINED, OWN):
            self.is_one(within(1, inmost))
            self.is_one(within(2, inmost))
            self.is_none(within(3, inmost))
            self.is_none(within(4, inmost))

    def test_four_deep_on_either_side(self):
        three = within(2)
        self.is_one(("either", within(1), within(1), 1, ONE))
        self.is_none(("either", three, SAME, 1, ONE))
        self.is_none(("either", SAME, three, 1, ONE))
        self.is_none(("either", three, three, 1, ONE))
        self.is_none(("either", within(1), three, 1, ONE))
        self.is_none(("either", three, within(1), 1, ONE))

    def test_what_is_no_guesser_within(self):
        for wrong in (("same", 2), ("table", 17, ONE), None, (), "same", ("either", SAME, SAME, 0, ONE), ONE):
            self.is_none(("either", wrong, SAME, 1, ONE))
            self.is_none(("either", SAME, wrong, 1, ONE))
            self.is_none(("either", ("either", SAME, wrong, 1, ONE), SAME, 1, ONE))
            self.is_none(("either", SAME, ("either", wrong, SAME, 1, ONE), 1, ONE))

    def test_wrong_words(self):
        words = ("", "Same", "same ", "tables", "MIXED", "join", "owns", "way", "row", b"same", None, 0, 1, (), ["same"])
        for word in words:
            for rest in ((), (1,), (1, ONE), (1, 1, ONE), (SAME, SAME, 1, ONE)):
                self.is_none((word,) + rest)

    def test_a_thing_that_is_equal_to_every_word_is_none(self):
        class Alike:
            def __eq__(self, other):
                return True

        for guesser in KINDS:
            self.is_none((Alike(),) + guesser[1:])

    def test_other_kinds(self):
        for thing in OTHER_KINDS:
            self.is_none(thing)
            self.is_none((thing,))
            self.is_none((thing, thing))
            self.is_none(("either", thing, SAME, 1, ONE))
            self.is_none(("either", SAME, thing, 1, ONE))
            self.is_none(("table", 1, thing))

    def test_thousands_deep(self):
        deep_either = SAME
        for _ in range(DEEP):
            deep_either = ("either", deep_either, deep_either, 1, ONE)
        for thing in deep_things() + [deep_either]:
            self.is_none(thing)
            self.is_none(("same", thing))
            self.is_none((thing, 1))
            for guesser in of_every_kind(size=thing) + of_every_kind(length=thing)[:3] + of_every_kind(cell=thing):
                self.is_none(guesser)
            for guesser in of_every_kind(cell=((0,), (thing,), (0,))):
                self.is_none(guesser)
            self.is_none(("either", thing, SAME, 1, ONE))
            self.is_none(("either", SAME, ("either", SAME, thing, 1, ONE), 1, ONE))

    def test_a_list_within_itself(self):
        loop = ["either"]
        loop.extend([loop, loop, 1, ONE])
        self.is_none(loop)
        self.is_none(("either", loop, SAME, 1, ONE))
        self.is_none(("table", 1, loop))

    def test_what_was_handed_in_is_as_it_was(self):
        things = [["same", 1], ("table", 1, [[0], [0], [0]]), ("either", ["same", 1], [SAME], 1, ONE), {"same": [1]}]
        was = copy.deepcopy(things)
        for thing in things:
            self.is_none(thing)
        self.assertEqual(things, was)


class ManyCells(unittest.TestCase):
    def test_each_kind(self):
        self.assertEqual(many_cells(("same", 0)), 0)
        for size in (1, 5, 16):
            self.assertEqual(many_cells(("table", size, TWO)), size)
            for length in (0, 1, 2):
                self.assertEqual(many_cells(("mixed", size, length, TWO)), size)
                self.assertEqual(many_cells(("joined", size, length, TWO)), size * 2 ** length)
                self.assertEqual(many_cells(("own", size, length, TWO)), 2 ** length)
        self.assertEqual(many_cells(("mixed", 3, 6, TWO)), 3)
        self.assertEqual(many_cells(("joined", 1, 6, TWO)), 64)
        self.assertEqual(many_cells(("own", 16, 6, TWO)), 64)

    def test_those_of_both_within_are_counted(self):
        self.assertEqual(many_cells(("either", SAME, SAME, 7, ONE)), 7)
        self.assertEqual(many_cells(("either", TABLE, SAME, 7, ONE)), 10)
        self.assertEqual(many_cells(("either", SAME, JOINED, 7, ONE)), 19)
        self.assertEqual(many_cells(("either", TABLE, JOINED, 7, ONE)), 22)
        self.assertEqual(many_cells(EITHER), 5 + 4 + 2)
        self.assertEqual(many_cells(DEEP_EITHER), (3 + 0 + 3) + (5 + 4 + 2) + 1)

    def test_the_cells_states_don_t_count(self):
        self.assertEqual(many_cells(("table", 2, counter(4, 0))), 2)

    def test_a_whole_number(self):
        for guesser in KINDS:
            self.assertIs(type(many_cells(guesser)), int)


class FirstState(unittest.TestCase):
    def test_each_kind(self):
        self.assertEqual(first_state(("same", 0)), ())
        self.assertEqual(first_state(("same", 1)), ())
        self.assertEqual(first_state(("table", 3, TWO)), (0, 0, 0))
        self.assertEqual(first_state(("table", 1, TWO)), (0,))
        self.assertEqual(first_state(("mixed", 2, 5, TWO)), (0, (0, 0)))
        self.assertEqual(first_state(("joined", 3, 1, TWO)), (0, (0,) * 6))
        self.assertEqual(first_state(("joined", 3, 0, TWO)), (0, (0,) * 3))
        self.assertEqual(first_state(("own", 3, 1, TWO)), ((0, 0, 0), (0, 0)))
        self.assertEqual(first_state(("own", 1, 2, TWO)), ((0,), (0,) * 4))
        self.assertEqual(first_state(("own", 2, 0, TWO)), ((0, 0), (0,)))

    def test_either(self):
        self.assertEqual(first_state(("either", SAME, SAME, 2, ONE)), ((), (), (0, 0)))
        self.assertEqual(first_state(("either", TABLE, OWN, 1, ONE)), ((0, 0, 0), ((0, 0, 0), (0,) * 4), (0,)))
        inner = ("either", SAME, ("table", 2, ONE), 1, ONE)
        self.assertEqual(first_state(("either", inner, SAME, 3, ONE)), (((), (0, 0), (0,)), (), (0, 0, 0)))

    def test_through_and_through_tuples_of_whole_numbers(self):
        for guesser in KINDS:
            self.assertTrue(are_wholes(first_state(guesser)), guesser)


class GuessAndLearned(unittest.TestCase):
    def test_same(self):
        for way in (0, 1):
            for place in (0, 5, 999):
                self.assertEqual(guess(("same", way), (), place), way)
                self.assertEqual(learned(("same", way), (), place, 0), ())
                self.assertEqual(learned(("same", way), (), place, 1), ())

    def test_table(self):
        guesser = ("table", 3, ONE)
        self.assertEqual([guess(guesser, (0, 1, 0), place) for place in range(6)], [0, 1, 0, 0, 1, 0])
        self.assertEqual(guess(guesser, (1, 0, 0), 999), 1)
        self.assertEqual(guess(guesser, (0, 1, 1), 999), 0)
        self.assertEqual(learned(guesser, (0, 0, 0), 4, 1), (0, 1, 0))
        self.assertEqual(learned(guesser, (1, 1, 1), 998, 0), (1, 1, 0))
        self.assertEqual(learned(guesser, (1, 1, 0), 998, 0), (1, 1, 0))

    def test_the_ways_of_a_cell_are_not_mixed_up(self):
        cell = ((0, 1, 0), (1, 1, 0), (2, 0, 2))
        self.assertEqual(learned(("table", 1, cell), (0,), 0, 0), (1,))
        self.assertEqual(learned(("table", 1, cell), (0,), 0, 1), (2,))
        self.assertEqual([guess(("table", 1, cell), (state,), 0) for state in (0, 1, 2)], [0, 1, 0])

    def test_mixed(self):
        guesser = ("mixed", 5, 3, ONE)
        # Of place 7 and number 6 the cell at the rest of 13 by 5.
        self.assertEqual(guess(guesser, (6, (0, 0, 0, 1, 0)), 7), 1)
        self.assertEqual(guess(guesser, (6, (1, 1, 1, 0, 1)), 7), 0)
        # That cell goes on, found by the number as it is ahead of the way.
        self.assertEqual(learned(guesser, (6, (0, 0, 0, 0, 0)), 7, 1), (5, (0, 0, 0, 1, 0)))
        self.assertEqual(learned(guesser, (6, (1, 1, 1, 1, 1)), 7, 0), (4, (1, 1, 1, 0, 1)))

    def test_joined(self):
        guesser = ("joined", 3, 2, ONE)
        # Of place 5 (rest 2) and number 1 the cell at 4 * 2 + 1.
        for at in range(12):
            cells = tuple(int(other == at) for other in range(12))
            self.assertEqual(guess(guesser, (1, cells), 5), int(at == 9))
        none = (0,) * 12
        self.assertEqual(learned(guesser, (1, none), 5, 1), (3, none[:9] + (1,) + none[10:]))
        self.assertEqual(learned(guesser, (3, (1,) * 12), 3, 0), (2, (1, 1, 1, 0) + (1,) * 8))

    def test_own(self):
        guesser = ("own", 3, 2, ONE)
        # Of place 7 (rest 1) the number at 1, and the cell at that number.
        self.assertEqual(guess(guesser, ((0, 2, 1), (0, 0, 1, 0)), 7), 1)
        self.assertEqual(guess(guesser, ((2, 3, 2), (0, 0, 1, 0)), 7), 0)
        self.assertEqual(learned(guesser, ((0, 2, 1), (0, 0, 0, 0)), 7, 1), ((0, 1, 1), (0, 0, 1, 0)))
        self.assertEqual(learned(guesser, ((0, 2, 1), (1, 1, 1, 1)), 8, 0), ((0, 2, 2), (1, 0, 1, 1)))

    def test_rows_of_their_own(self):
        guesser = ("own", 2, 2, ONE)
        state = state_behind(guesser, [(0, 1), (1, 0), (2, 1), (3, 1), (4, 0)])
        self.assertEqual(state[0], (2, 1))
        # All places share the cells: what one row taught at a number another row guesses there.
        cells = (0, 1, 0, 0)
        self.assertEqual(guess(guesser, ((1, 0), cells), 4), 1)
        self.assertEqual(guess(guesser, ((0, 1), cells), 5), 1)
        self.assertEqual(guess(guesser, ((0, 1), cells), 4), 0)

    def test_the_last_way_counts_1_and_the_one_ahead_of_it_2(self):
        ways = [1, 0, 0, 1, 1, 0]
        run = [(place, way) for place, way in enumerate(ways)]
        for length, number in enumerate((0, 0, 2, 6, 6, 6, 38)):
            self.assertEqual(state_behind(("mixed", 2, length, ONE), run)[0], number)
            self.assertEqual(state_behind(("joined", 1, length, ONE), run)[0], number)
            self.assertEqual(state_behind(("own", 1, length, ONE), run)[0], (number,))

    def test_0_where_no_way_was(self):
        self.assertEqual(state_behind(("mixed", 2, 6, ONE), [(3, 1), (4, 0)])[0], 2)
        self.assertEqual(state_behind(("joined", 1, 6, ONE), [(3, 1)])[0], 1)
        self.assertEqual(state_behind(("own", 4, 6, ONE), [(3, 1), (7, 1), (2, 0)])[0], (0, 0, 0, 3))

    def test_either_tells_the_guess_of_the_one_that_its_cell_guesses(self):
        for first in (0, 1):
            guesser = ("either", ("same", first), ("same", 1 - first), 2, ONE)
            self.assertEqual(guess(guesser, ((), (), (0, 1)), 4), first)
            self.assertEqual(guess(guesser, ((), (), (0, 1)), 5), 1 - first)

    def test_either_goes_on_where_one_alone_was_right(self):
        cell = ((0, 0, 1), (1, 1, 1), (2, 2, 2))
        # The state 1 says that the first one alone was right, 2 that the second one alone was.
        for first, second in ((0, 0), (0, 1), (1, 0), (1, 1)):
            guesser = ("either", ("same", first), ("same", second), 2, cell)
            for way in (0, 1):
                went = {(True, False): 1, (False, True): 2}.get((first == way, second == way), 0)
                self.assertEqual(learned(guesser, ((), (), (0, 0)), 7, way), ((), (), (0, went)))
                self.assertEqual(learned(guesser, ((), (), (0, 0)), 6, way), ((), (), (went, 0)))

    def test_either_where_none_or_both_were_right_stays(self):
        guesser = ("either", ("same", 1), ("same", 1), 1, TURNING)
        for state in (0, 1):
            for way in (0, 1):
                self.assertEqual(learned(guesser, ((), (), (state,)), 0, way), ((), (), (state,)))

    def test_either_by_the_guesses_in_the_state_ahead(self):
        # Behind a way 1 the table guesses 1; ahead of it, it guessed 0 and was wrong.
        guesser = ("either", ("table", 1, ONE), ("same", 1), 1, ONE)
        self.assertEqual(learned(guesser, ((0,), (), (0,)), 0, 1), ((1,), (), (1,)))
        # Behind a way 0 the table guesses 0; ahead of it, it guessed 1 and was wrong.
        guesser = ("either", ("same", 0), ("table", 1, ONE), 1, ONE)
        self.assertEqual(learned(guesser, ((), (1,), (1,)), 0, 0), ((), (0,), (0,)))

    def test_either_lets_both_learn_whichever_is_told(self):
        for chosen in (0, 1):
            state = ((0, 0, 0), (0, (0, 0)), (chosen,))
            guesser = ("either", ("table", 3, ONE), ("mixed", 2, 2, ONE), 1, TWO)
            self.assertEqual(learned(guesser, state, 4, 1)[:2], ((0, 1, 0), (1, (1, 0))))

    def test_event_by_event_against_the_plain_one(self):
        draw = random.Random(20261118)
        guessers = list(KINDS) + [drawn_guesser(draw) for _ in range(300)]
        for guesser in guessers:
            self.assertIs(is_guesser(guesser), True)
            plain = Plain(guesser)
            state = first_state(guesser)
            for place, way in drawn_run(draw, 40, 30):
                self.assertEqual(state, plain.state())
                for asked in (place, 0, 17, 999):
                    self.assertEqual(guess(guesser, state, asked), plain.guess(asked))
                state = learned(guesser, state, place, way)
                plain.go_on(place, way)
            self.assertEqual(state, plain.state())

    def test_the_greatest_sizes_and_lengths(self):
        draw = random.Random(7)
        cell = counter(4, 3)
        great = [("table", 16, cell), ("mixed", 16, 6, cell), ("joined", 16, 2, cell), ("joined", 1, 6, cell)]
        great.append(("own", 16, 6, cell))
        for guesser in great + [("either", great[1], ("either", great[3], great[4], 16, ODD), 16, cell)]:
            plain = Plain(guesser)
            run = drawn_run(draw, 300, 999)
            plain.along(run)
            self.assertEqual(state_behind(guesser, run), plain.state())

    def test_through_and_through_tuples_of_whole_numbers(self):
        draw = random.Random(3)
        for guesser in KINDS:
            state = first_state(guesser)
            for place, way in drawn_run(draw, 30):
                self.assertIs(type(guess(guesser, state, place)), int)
                state = learned(guesser, state, place, way)
                self.assertTrue(are_wholes(state), guesser)

    def test_a_state_is_as_good_behind_as_it_was(self):
        draw = random.Random(4)
        for guesser in KINDS:
            state = state_behind(guesser, drawn_run(draw, 10))
            was = copy.deepcopy((guesser, state))
            told = [(guess(guesser, state, place), learned(guesser, state, place, 1)) for place in range(20)]
            again = [(guess(guesser, state, place), learned(guesser, state, place, 1)) for place in range(20)]
            self.assertEqual(told, again)
            self.assertEqual((guesser, state), was)


class IsState(unittest.TestCase):
    """What is a state of a guesser, as the checkers of papers need it [9, 21, 26]."""

    def test_all_that_can_be_come_to(self):
        draw = random.Random(5)
        for guesser in list(KINDS) + [drawn_guesser(draw) for _ in range(100)]:
            state = first_state(guesser)
            self.assertIs(is_state(guesser, state), True)
            for place, way in drawn_run(draw, 20):
                state = learned(guesser, state, place, way)
                self.assertIs(is_state(guesser, state), True)

    def test_one_that_can_t_be_come_to(self):
        unmet = ((0, 1), (0, 0), (0, 0))
        self.assertIs(is_state(("table", 2, unmet), (0, 1)), True)
        self.assertIs(is_state(("own", 2, 1, unmet), ((1, 0), (1, 1))), True)

    def test_no_state_of_another_guesser(self):
        for guesser in KINDS:
            for other in KINDS:
                if first_state(other) != first_state(guesser):
                    self.assertIs(is_state(guesser, first_state(other)), False)

    def test_numbers_out_of_their_bounds(self):
        for wrong in (-1, 2, True, False, None, "0", (0,), [0]):
            self.assertIs(is_state(("table", 2, ONE), (0, wrong)), False)
            self.assertIs(is_state(("mixed", 1, 1, ONE), (wrong, (0,))), False)
            self.assertIs(is_state(("joined", 1, 1, ONE), (wrong, (0, 0))), False)
            self.assertIs(is_state(("own", 2, 1, ONE), ((0, wrong), (0, 0))), False)
            self.assertIs(is_state(("either", SAME, SAME, 1, ONE), ((), (), (wrong,))), False)

    def test_other_kinds(self):
        for thing in list(OTHER_KINDS) + deep_things():
            for guesser in KINDS[2:]:
                self.assertIs(is_state(guesser, thing), False)
                self.assertIs(is_state(guesser, (first_state(guesser), thing)), False)
                self.assertIs(is_state(guesser, first_state(guesser)[:-1] + ((thing, None),)), False)
            self.assertIs(is_state(SAME, thing), thing == () and isinstance(thing, tuple))


class Rests(unittest.TestCase):
    def test_places_with_the_same_rests_are_alike(self):
        draw = random.Random(6)
        for guesser in list(KINDS) + [drawn_guesser(draw) for _ in range(60)]:
            state = state_behind(guesser, drawn_run(draw, 15))
            told = {}
            for place in range(130):
                behind = [learned(guesser, state, place, way) for way in (0, 1)]
                done = (guess(guesser, state, place), behind)
                self.assertEqual(told.setdefault(rests_of(guesser, place), done), done)


class Beyond(unittest.TestCase):
    """The interface: somewhat beyond a limit no error is raised."""

    def test_no_error(self):
        sizes = [guesser for size in (0, -1, 17, 20) for guesser in of_every_kind(size, 2)]
        lengths = [guesser for length in (-1, 7, 8) for guesser in of_every_kind(2, length)]
        for guesser in sizes + lengths + [within(3, TABLE), within(6, MIXED), ("same", 2)]:
            many_cells(guesser)
            state = first_state(guesser)
            for place in (0, 5, 1000, 1001):
                guess(guesser, state, place)
                state = learned(guesser, state, place, 1)
            self.assertTrue(are_wholes(state))

    def test_sizes_and_lengths_beyond_do_as_those_within(self):
        draw = random.Random(8)
        for guesser in (("table", 17, TWO), ("mixed", 18, 7, TWO), ("joined", 17, 3, TWO), ("own", 17, 7, TWO)):
            plain = Plain(guesser)
            run = drawn_run(draw, 100, 1010)
            plain.along(run)
            self.assertEqual(state_behind(guesser, run), plain.state())


if __name__ == "__main__":
    unittest.main()
