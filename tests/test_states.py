"""What a whole number is [1]."""

import unittest

from wayguess.states import is_whole, is_whole_between


class Wholes(unittest.TestCase):
    def test_an_int_is_one(self):
        for number in (0, 1, -1, 999, 10 ** 40, -(10 ** 40)):
            self.assertIs(is_whole(number), True)

    def test_a_truth_is_none(self):
        self.assertIs(is_whole(True), False)
        self.assertIs(is_whole(False), False)

    def test_other_kinds_are_none(self):
        for thing in (None, "", "1", b"1", (), (1,), [], [1], {}, {1: 1}, {1}, object()):
            self.assertIs(is_whole(thing), False)
            self.assertIs(is_whole_between(thing, 0, 1), False)

    def test_both_ends_are_among_them(self):
        told = [is_whole_between(number, 2, 4) for number in range(7)]
        self.assertEqual(told, [False, False, True, True, True, False, False])

    def test_a_truth_is_between_nothing(self):
        self.assertIs(is_whole_between(True, 0, 1), False)
        self.assertIs(is_whole_between(False, 0, 1), False)


if __name__ == "__main__":
    unittest.main()
