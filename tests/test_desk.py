"""Stage 12: the desk [1, 32]."""

import copy
import random
import unittest

from deep import deep_things
from plain import drawn_guesser, drawn_pattern, drawn_places, pairs_come_to
from wayguess.against import ahead_by
from wayguess.alike import parting_run
from wayguess.desk import Desk
from wayguess.errors import GuessError, NoGuesser, NoName, NoPattern, NoRow
from wayguess.guessers import first_state, guess
from wayguess.notes import read_guesser, read_pattern, show_guesser, show_pattern
from wayguess.patterns import misses_of, passed_pattern
from wayguess.rounds import for_ever

MOST = 10 ** 18


class Case(unittest.TestCase):
    def setUp(self):
        self.desk = Desk()
        self.says("guesser one table 2 c1.0", "ok")

    def says(self, row, wanted):
        told = self.desk.say(row)
        self.assertIs(type(told), str)
        self.assertEqual(told, wanted, row)

    def refused(self, row, error):
        with self.assertRaises(GuessError) as caught:
            self.desk.say(row)
        self.assertIs(type(caught.exception), error)


class Rows(Case):
    def test_guesser(self):
        for text in ("same 1", "mixed 4 2 c2.1", "either ( same 0 ) ( table 3 c2.1 ) 4 [01/00/10]"):
            self.says(f"guesser some {text}", "ok")
            self.says("misses some ()", "0")

    def test_learn_goes_on(self):
        self.says("learn one 4+", "1")
        self.says("guess one 4", "1")
        self.says("learn one 4+", "0")
        self.says("learn one (4- 4+ 4-)", "3")
        self.says("learn one (4- 5- 5+)", "1")
        self.says("guess one 4", "0")
        self.says("guess one 5", "1")

    def test_misses_does_not(self):
        for _ in range(3):
            self.says("misses one 4+", "1")
            self.says("misses one (4+ 4-)", "2")
            self.says("guess one 4", "0")
        self.says("learn one 4+", "1")
        # From the first state on, wherever the guesser now is.
        self.says("misses one 4+", "1")
        self.says("learn one 4+", "0")

    def test_ever_so_many(self):
        self.says(f"learn one {MOST}*(4+ 4-)", str(2 * MOST))
        self.says(f"misses one {MOST}*{MOST}*(4+ 4-)", str(2 * MOST * MOST))
        self.says(f"learn one {MOST}*5+", "1")
        self.says("guess one 5", "1")
        self.says("learn one 0*5-", "0")
        self.says("guess one 5", "1")

    def test_guess(self):
        self.says("guess one 0", "0")
        self.says("guess one 999", "0")
        self.says("learn one 999+", "1")
        self.says("guess one 999", "1")
        self.says("guess one 1", "1")
        self.says("guess one 10", "0")
        self.says("guesser up same 1", "ok")
        self.says("guess up 7", "1")

    def test_round(self):
        self.says("round one () (4+ 4-)", "0 1 0 2")
        self.says("round one 4+ 4+", "0 1 1 0")
        self.says("round one 4- 4+", "1 1 1 0")
        self.says("guesser turn table 1 [01/10/10]", "ok")
        self.says("round turn () 4+", "0 2 0 1")
        self.says("round turn 3*4+ 4+", "0 2 2 1")
        self.says("round turn (4+ (4- 4-)) (() 4+)", "0 2 2 1")

    def test_round_from_the_first_state_on(self):
        self.says("round one () 4+", "1 1 1 0")
        self.says("learn one 4+", "1")
        self.says("round one () 4+", "1 1 1 0")
        self.says("guess one 4", "1")

    def test_against(self):
        self.says("guesser up same 1", "ok")
        self.says("guesser down same 0", "ok")
        self.says("against up down 3", "ever more")
        self.says("against up up 3 4 999", "at most 0")
        self.says("guesser first table 2 [101/112/212]", "ok")
        self.says("guesser other table 2 [001/112/212]", "ok")
        self.says("against first other 0", "at most 1")
        self.says("against other first 0 1", "at most 2")
        self.says("against other first 0 1 2 3", "at most 2")

    def test_alike(self):
        self.says("guesser mix mixed 2 0 c1.0", "ok")
        self.says("alike one mix 0 1 2", "yes")
        self.says("alike one one 0", "yes")
        self.says("guesser up same 1", "ok")
        self.says("alike one up 3 7", "at 3")
        self.says("guesser down same 0", "ok")
        self.says("alike one down 3 7", "3+ at 3")
        self.says("guesser two table 4 c1.0", "ok")
        self.says("alike one two 0 1 2", "0+ at 2")
        self.says("guesser slow table 1 c4.0", "ok")
        self.says("alike slow down 12", "12+ 12+ 12+ 12+ at 12")
        self.says("guesser zero table 1 [011/122/122]", "ok")
        self.says("alike zero down 0 12", "0- at 0")

    def test_against_and_alike_from_the_first_states_on_and_nothing_goes_on(self):
        self.says("guesser two table 2 c1.0", "ok")
        self.says("learn two 4+", "1")
        self.says("alike one two 4", "yes")
        self.says("against one two 4", "at most 0")
        self.says("guess two 4", "1")
        self.says("guess one 4", "0")

    def test_first(self):
        self.says("learn one (4+ 5+)", "2")
        self.says("guess one 4", "1")
        self.says("first one", "ok")
        self.says("guess one 4", "0")
        self.says("guess one 5", "0")
        self.says("learn one (4+ 5+)", "2")
        self.says("first one", "ok")
        self.says("first one", "ok")

    def test_a_guesser_told_anew_under_its_name(self):
        self.says("learn one 4+", "1")
        self.says("guesser one table 2 c1.0", "ok")
        self.says("guess one 4", "0")
        self.says("guesser one same 1", "ok")
        self.says("guess one 4", "1")
        self.says("learn one 4+", "0")

    def test_each_name_has_a_state_of_its_own(self):
        self.says("guesser two table 2 c1.0", "ok")
        self.says("learn one 4+", "1")
        self.says("guess two 4", "0")
        self.says("first two", "ok")
        self.says("guess one 4", "1")

    def test_two_desks_know_nothing_of_each_other(self):
        other = Desk()
        with self.assertRaises(NoName):
            other.say("guess one 4")
        self.assertEqual(other.say("guesser one same 1"), "ok")
        self.says("guess one 4", "0")
        self.says("learn one 4+", "1")
        self.assertEqual(other.say("guesser one table 2 c1.0"), "ok")
        self.assertEqual(other.say("guess one 4"), "0")
        self.says("guess one 4", "1")

    def test_drawn_against_the_functions(self):
        draw = random.Random(131)
        for _ in range(150):
            one, other = [read_guesser(show_guesser(drawn_guesser(draw, 2))) for _ in range(2)]
            self.says(f"guesser one {show_guesser(one)}", "ok")
            self.says(f"guesser other {show_guesser(other)}", "ok")
            patterns = [drawn_pattern(draw, 50) for _ in range(3)]
            texts = [show_pattern(pattern) for pattern in patterns]
            state = first_state(one)
            for text, pattern in zip(texts, patterns):
                self.assertEqual(read_pattern(text), pattern)
                misses, state = passed_pattern(one, state, pattern)
                self.says(f"learn one {text}", str(misses))
                self.says(f"misses one {text}", str(misses_of(one, pattern)))
                place = draw.randint(0, 999)
                self.says(f"guess one {place}", str(guess(one, state, place)))
            told = for_ever(one, patterns[0], patterns[1])
            self.says(f"round one {texts[0]} {texts[1]}", f"{told[0]} {told[1]} {told[2]} {told[3]}")
            places = drawn_places(draw, 3)
            if pairs_come_to(one, other, places, 300) is not None:
                self.both(one, other, places)
            self.says("first one", "ok")
            self.says(f"learn one {texts[2]}", str(misses_of(one, patterns[2])))

    def both(self, one, other, places):
        row = " ".join(str(place) for place in places)
        told = ahead_by(one, other, places)
        wanted = "ever more" if told[0] == "ever more" else f"at most {told[1]}"
        self.says(f"against one other {row}", wanted)
        told = parting_run(one, other, places)
        wanted = "yes"
        if told is not None:
            wanted = "".join(f"{place}{'-+'[way]} " for place, way in told[0]) + f"at {told[1]}"
        self.says(f"alike one other {row}", wanted)


class Refused(Case):
    def test_names(self):
        for name in ("a", "z", "abcdefgh", "zzzzzzzz", "guesser", "same", "ok"):
            self.says(f"guesser {name} same 1", "ok")
            self.says(f"guess {name} 0", "1")
        for name in ("", "abcdefghi", "A", "aB", "a1", "1", "a_b", "a-b", "(", "a\n", "\na", "a.b", "a" * 2900):
            self.refused(f"guesser {name} same 1", NoRow)
            self.refused(f"learn {name} 1+", NoRow)
            self.refused(f"misses {name} 1+", NoRow)
            self.refused(f"guess {name} 1", NoRow)
            self.refused(f"round {name} 1+ 1+", NoRow)
            self.refused(f"against {name} one 1", NoRow)
            self.refused(f"against one {name} 1", NoRow)
            self.refused(f"alike {name} one 1", NoRow)
            self.refused(f"alike one {name} 1", NoRow)
            self.refused(f"first {name}", NoRow)

    def test_names_that_it_lacks(self):
        rows = (
            "learn two 1+", "misses two 1+", "guess two 1", "round two 1+ 1+", "against two one 1", "against one two 1",
            "alike two one 1", "alike one two 1", "alike two two 1", "first two", "first on", "first onee",
            "first abcdefgh",
        )
        for row in rows:
            self.refused(row, NoName)

    def test_places(self):
        for place in ("", "00", "01", "007", "1000", "0999", "-1", "+1", "1+", "a", "1.0", "1\n", "9" * 2900):
            self.refused(f"guess one {place}", NoRow)
            self.refused(f"against one one {place}", NoRow)
            self.refused(f"alike one one {place}", NoRow)
            self.refused(f"alike one one 0 {place}", NoRow)
            self.refused(f"against one one {place} 999", NoRow)
        for place in ("0", "1", "10", "999"):
            self.says(f"guess one {place}", "0")
            self.says(f"against one one {place}", "at most 0")
            self.says(f"alike one one {place}", "yes")

    def test_places_that_do_not_rise(self):
        for word in ("against", "alike"):
            for places in ("1 1", "2 1", "1 2 2", "1 3 2", "10 9", "1 2 3 1", "0 0"):
                self.refused(f"{word} one one {places}", NoRow)
            self.refused(f"{word} one one", NoRow)
            self.refused(f"{word} one one ", NoRow)
        self.says("alike one one 9 10 100", "yes")

    def test_a_word_too_many_or_too_few(self):
        rows = (
            "guesser", "guesser ", "guesser one", "learn", "learn ", "learn one", "misses", "misses one", "guess",
            "guess one",
            "guess one 1 2", "guess 1", "round", "round one", "round one ", "round one 1+", "round 1+ 1+", "against",
            "against one", "against one 1", "against one one", "alike", "alike one", "alike one 1 2", "alike one one",
            "first", "first ", "first one one", "first one ", "against one one one 1", "alike one one one 1",
        )
        for row in rows:
            self.refused(row, NoRow)

    def test_two_blanks_in_a_row(self):
        rows = (
            "guesser  one same 1", "learn  one 1+", "misses  one 1+", "guess  one 1", "guess one  1",
            "round  one 1+ 1+",
            "against  one one 1", "against one  one 1", "against one one  1", "against one one 1  2",
            "alike one one 1 ",
            "first  one", " first one", "first one ", " guess one 1", "guess one 1 ", "  ", " ",
        )
        for row in rows:
            self.refused(row, NoRow)
        # Behind the blank behind the name stands the text, whatever it begins with.
        self.refused("guesser one  same 1", NoGuesser)
        self.refused("learn one  1+", NoPattern)
        self.refused("misses one 1+ ", NoPattern)
        self.refused("round one  1+ 1+", NoPattern)
        self.refused("round one 1+  1+", NoPattern)
        self.refused("round one 1+ 1+ ", NoPattern)

    def test_other_rows(self):
        rows = (
            "", "\n", "ok", "one", "Guess one 1", "guesses one 1", "gues one 1", "forget one", "learn\none 1+",
            "guess one\n1",
            "guess\tone 1", "say one", "against", "same 1", "12+", "help", "guess one 1\n", "first one\n", "first\none",
            "kept one", "__init__ one", "x" * 3000, " " * 3000, "\n" * 3000, "(" * 3000,
        )
        for row in rows:
            self.refused(row, NoRow)

    def test_what_is_no_text(self):
        things = [
            None, True, False, 0, 1, -1, 10 ** 30, b"", b"first one", [], ["first one"], ["first", "one"], (),
            ("first one",),
            {}, {"first": "one"}, {"first one"}, object(), Desk(),
        ]
        for thing in things + deep_things():
            self.refused(thing, NoRow)

    def test_no_guesser(self):
        for text in ("", "same", "same 2", "table 17 c2.1", "12+", "same 1 ", "either ( same 1 )", "\n", "(" * 2900):
            self.refused(f"guesser one {text}", NoGuesser)
            self.refused(f"guesser new {text}", NoGuesser)
        self.refused("learn new 1+", NoName)

    def test_no_pattern(self):
        for text in ("", "1", "same 1", "1000+", "(1+", "1+)", "( 1+ )", "01+", "1+ 1+", "\n", "(" * 2900, "2*" * 1400):
            self.refused(f"learn one {text}", NoPattern)
            self.refused(f"misses one {text}", NoPattern)

    def test_no_row_ahead_of_no_name(self):
        rows = (
            "guess two 1000", "guess two 01", "guess two", "guess two 1 1", "learn two", "misses two", "round two",
            "round two 1+",
            "round two (1+ 1+", "against two one", "against two one 2 1", "against two one 01", "against one two 1 1",
            "against two One 1", "alike One two 1", "alike two one 1000", "alike two two", "first two two",
            "first two ",
        )
        for row in rows:
            self.refused(row, NoRow)

    def test_no_name_ahead_of_no_pattern(self):
        for row in ("learn two ", "learn two (", "misses two 1000+", "round two 1 1", "round two )( (", "round two  "):
            self.refused(row, NoName)

    def test_no_row_ahead_of_no_guesser_and_no_pattern(self):
        self.refused("guesser One same 2", NoRow)
        self.refused("guesser  same 2", NoRow)
        self.refused("guesser abcdefghi ", NoRow)
        self.refused("learn One (", NoRow)
        self.refused("misses 1 (", NoRow)
        self.refused("round one (1+", NoRow)
        self.refused("round One ( )", NoRow)

    def test_the_two_patterns_of_round(self):
        self.says("round one (4+ 4-) 4+", "1 1 3 0")
        self.says("round one 4+ (4+ 4-)", "1 1 2 2")
        self.says("round one 4- (4+ 4-)", "0 1 0 2")
        self.says("round one ((4+ 4-) 4-) ((4+) 4-)", "0 1 2 2")
        self.says("round one 2*(4+ 4-) 3*(4+ 4-)", "0 1 4 6")
        # The first blank outside of brackets parts them; what is behind it is the second text as a whole.
        self.refused("round one 4+ 4+ 4+", NoPattern)
        self.refused("round one (4+ 4+) 4+ 4+", NoPattern)
        self.refused("round one 4+ (4+ 4+", NoPattern)
        self.refused("round one 4+ ", NoPattern)
        self.refused("round one  4+", NoPattern)
        self.refused("round one  ", NoPattern)
        self.refused("round one same 1", NoPattern)
        self.refused("round one () )", NoPattern)
        self.refused("round one )( 4+", NoPattern)
        self.refused("round one ) ( 4+", NoPattern)
        # Of these no blank has as many ( as ) ahead of it.
        self.refused("round one (4+ 4+)", NoRow)
        self.refused("round one (4+ 4+", NoRow)
        self.refused("round one ( )", NoRow)
        self.refused("round one ((4+ 4+) 4+ 4+", NoRow)
        self.refused("round one 4+) 4+", NoRow)
        self.refused("round one ) ) (", NoRow)
        self.refused("round one ()", NoRow)

    def test_what_is_refused_changes_nothing(self):
        self.says("learn one 4+", "1")
        rows = (
            "guesser one same 2", "guesser one ", "guesser One same 1", "learn one (", "learn one 4- ",
            "learn one 4-) ",
            "learn One 4-", "misses one (", "first one ", "first One", "first two", "guess one 1000", "round one 4- (",
            "round one 4-", "against one two 4", "alike one two 4", "learn two 4-", "guesser", "", None,
            5, ["first one"],
        )
        for row in rows:
            with self.assertRaises(GuessError):
                self.desk.say(row)
            self.says("guess one 4", "1")
            self.says("misses one (4+ 4+)", "1")
        self.refused("guess two 4", NoName)
        self.says("learn one 4+", "0")

    def test_what_was_handed_in_is_as_it_was(self):
        row = ["first one", ["guess one 1"]]
        was = copy.deepcopy(row)
        self.refused(row, NoRow)
        self.assertEqual(row, was)


if __name__ == "__main__":
    unittest.main()
