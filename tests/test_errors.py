"""The interface's classes of errors."""

import unittest

from wayguess.errors import GuessError, NoGuesser, NoName, NoPattern, NoRow, NoRun

FIVE = (NoRun, NoGuesser, NoPattern, NoRow, NoName)


class Errors(unittest.TestCase):
    def test_any_refusal_is_a_value_error(self):
        self.assertTrue(issubclass(GuessError, ValueError))

    def test_each_stands_under_guess_error(self):
        for one in FIVE:
            with self.subTest(one.__name__):
                self.assertTrue(issubclass(one, GuessError))
                self.assertIsNot(one, GuessError)

    def test_none_of_the_five_stands_under_another(self):
        for one in FIVE:
            for other in FIVE:
                if one.__name__ != other.__name__:
                    with self.subTest(one=one.__name__, other=other.__name__):
                        self.assertFalse(issubclass(one, other))

    def test_guess_error_stands_under_none_of_the_five(self):
        for one in FIVE:
            self.assertFalse(issubclass(GuessError, one))

    def test_their_names(self):
        names = [one.__name__ for one in (GuessError,) + FIVE]
        self.assertEqual(names, ["GuessError", "NoRun", "NoGuesser", "NoPattern", "NoRow", "NoName"])


if __name__ == "__main__":
    unittest.main()
