"""What a whole number is [1], and when a thing is just a state [16]."""

import unittest

from deep import deep_things
from wayguess.states import is_same_state, is_whole, is_whole_between, word_of


class Wholes(unittest.TestCase):
    def test_an_int_is_one(self):
        for number in (0, 1, -1, 999, 10 ** 40, -(10 ** 40)):
            self.assertIs(is_whole(number), True)

    def test_a_truth_is_none(self):
        self.assertIs(is_whole(True), False)
        self.assertIs(is_whole(False), False)

    def test_other_kinds_are_none(self):
        for thing in (None, "", "1", b"1", (), (1,), [], [1], {}, {1: 1}, {1}, object()):
            self.assertIs(is_whole(thing), False)
            self.assertIs(is_whole_between(thing, 0, 1), False)

    def test_both_ends_are_among_them(self):
        told = [is_whole_between(number, 2, 4) for number in range(7)]
        self.assertEqual(told, [False, False, True, True, True, False, False])

    def test_a_truth_is_between_nothing(self):
        self.assertIs(is_whole_between(True, 0, 1), False)
        self.assertIs(is_whole_between(False, 0, 1), False)


class Words(unittest.TestCase):
    def test_the_first_of_a_tuple(self):
        for thing in (("way",), ("row", ()), ("same", 1), ("other", None, [])):
            self.assertEqual(word_of(thing), thing[0])

    def test_none_of_other_things(self):
        for thing in [(), (1, "way"), (None,), (b"way",), ["way", 0, 0], "way", b"way", None, 0, True, {"way": 1}]:
            self.assertEqual(word_of(thing), "")
        for thing in deep_things()[:4]:
            self.assertEqual(word_of(thing), "")
            self.assertEqual(word_of((thing,)), "")


STATES = ((), (0,), (1, 0), (2, (0, 1)), ((0, 1), (1, 1)), ((), (1, (0,)), (0, 0)))


class SameState(unittest.TestCase):
    def test_each_is_itself_and_no_other(self):
        for at, one in enumerate(STATES):
            for other, state in enumerate(STATES):
                self.assertIs(is_same_state(one, state), at == other)

    def test_truths_are_no_numbers(self):
        self.assertIs(is_same_state((True, 0), (1, 0)), False)
        self.assertIs(is_same_state((1, False), (1, 0)), False)
        self.assertIs(is_same_state((2, (False, 1)), (2, (0, 1))), False)

    def test_lists_are_no_tuples(self):
        self.assertIs(is_same_state([1, 0], (1, 0)), False)
        self.assertIs(is_same_state((2, [0, 1]), (2, (0, 1))), False)
        self.assertIs(is_same_state([], ()), False)

    def test_more_or_fewer(self):
        self.assertIs(is_same_state((1,), (1, 0)), False)
        self.assertIs(is_same_state((1, 0, 0), (1, 0)), False)

    def test_other_kinds_and_thousands_deep(self):
        for thing in [None, True, -1, "", "10", b"10", {}, {1: 0}, object()] + deep_things():
            for state in STATES:
                self.assertIs(is_same_state(thing, state), False)
                self.assertIs(is_same_state((thing,), state), False)
                self.assertIs(is_same_state((thing, thing), state), False)


if __name__ == "__main__":
    unittest.main()
