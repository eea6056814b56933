"""Stage 12: texts [1, 31]."""

import copy
import random
import unittest

from deep import deep_things
from plain import (
    DEEP_EITHER, EITHER, JOINED, KINDS, MIXED, ODD, ONE, OWN, TABLE, TURNING, TWO, are_wholes, drawn_cell,
    drawn_guesser, drawn_pattern,
)
from wayguess.cells import counter, plain_cell
from wayguess.errors import NoGuesser, NoPattern
from wayguess.guessers import is_guesser
from wayguess.notes import read_guesser, read_pattern, show_guesser, show_pattern
from wayguess.runs import is_pattern

SIGNS = [chr(code) for code in range(32, 127)] + ["\n"]
GUESSERS = {
    "same 0": ("same", 0),
    "same 1": ("same", 1),
    "table 4 c2.1": ("table", 4, counter(2, 1)),
    "table 16 c1.0": ("table", 16, ONE),
    "table 1 [01/10/10]": ("table", 1, TURNING),
    "mixed 4 2 c2.1": ("mixed", 4, 2, TWO),
    "mixed 16 6 c4.7": ("mixed", 16, 6, counter(4, 7)),
    "joined 4 2 c2.1": ("joined", 4, 2, TWO),
    "joined 16 2 c3.5": ("joined", 16, 2, counter(3, 5)),
    "joined 1 6 [0/0/0]": ("joined", 1, 6, ((0,), (0,), (0,))),
    "own 4 2 c2.1": ("own", 4, 2, TWO),
    "own 16 0 [1/0/0]": ("own", 16, 0, ((1,), (0,), (0,))),
    "either ( same 0 ) ( table 3 c2.1 ) 4 c2.1": ("either", ("same", 0), ("table", 3, TWO), 4, TWO),
    "either ( either ( same 0 ) ( same 1 ) 1 c1.0 ) ( own 1 0 c1.1 ) 16 [01/10/10]": (
        "either", ("either", ("same", 0), ("same", 1), 1, ONE), ("own", 1, 0, counter(1, 1)), 16, TURNING,
    ),
}
PATTERNS = {
    "12+": ("way", 12, 1),
    "12-": ("way", 12, 0),
    "0+": ("way", 0, 1),
    "999-": ("way", 999, 0),
    "()": ("row", ()),
    "(12+)": ("row", (("way", 12, 1),)),
    "(12+ 3- 0+)": ("row", (("way", 12, 1), ("way", 3, 0), ("way", 0, 1))),
    "(() (1- ()) 2+)": ("row", (("row", ()), ("row", (("way", 1, 0), ("row", ()))), ("way", 2, 1))),
    "3*12+": ("times", 3, ("way", 12, 1)),
    "0*12-": ("times", 0, ("way", 12, 0)),
    "1000000000000000000*()": ("times", 10 ** 18, ("row", ())),
    "2*3*4*(1+ 5*2-)": (
        "times", 2, ("times", 3, ("times", 4, ("row", (("way", 1, 1), ("times", 5, ("way", 2, 0)))))),
    ),
}


def nested(many, inmost="same 1"):
    """The text of so many guessers more around the inmost one."""
    text = inmost
    for at in range(many):
        text = f"either ( same 0 ) ( {text} ) 1 c1.0" if at % 2 else f"either ( {text} ) ( same 0 ) 1 c1.0"
    return text


def nearly(text):
    """Texts with a sign more, a sign less or another one, anywhere."""
    told = {text[:at] + text[at + 1:] for at in range(len(text))}
    for at in range(len(text) + 1):
        for sign in SIGNS:
            told.add(text[:at] + sign + text[at:])
            told.add(text[:at] + sign + text[at + 1:])
    return sorted(told - {text})


def plain_guesser(guesser):
    """The same guesser with all cells in their plain forms."""
    if guesser[0] == "same":
        return guesser
    told = guesser[:-1] + (plain_cell(guesser[-1]),)
    if guesser[0] == "either":
        return (told[0], plain_guesser(told[1]), plain_guesser(told[2])) + told[3:]
    return told


class Guessers(unittest.TestCase):
    def refused(self, text):
        with self.assertRaises(NoGuesser) as caught:
            read_guesser(text)
        self.assertIs(type(caught.exception), NoGuesser)

    def test_each_kind_as_its_text_and_back(self):
        for text, guesser in GUESSERS.items():
            self.assertIs(is_guesser(guesser), True)
            self.assertEqual(show_guesser(guesser), text)
            self.assertEqual(read_guesser(text), guesser)

    def test_kinds_of_the_other_tests(self):
        self.assertEqual(show_guesser(TABLE), "table 3 c2.1")
        self.assertEqual(show_guesser(MIXED), "mixed 5 3 c2.1")
        self.assertEqual(show_guesser(JOINED), "joined 3 2 [100/120/202]")
        self.assertEqual(show_guesser(OWN), "own 3 2 c2.1")
        self.assertEqual(show_guesser(EITHER), "either ( mixed 5 3 c2.1 ) ( own 3 2 c2.1 ) 2 c2.1")
        inner = "either ( table 3 c2.1 ) ( same 1 ) 3 [100/120/202]"
        self.assertEqual(show_guesser(DEEP_EITHER), f"either ( {inner} ) ( {show_guesser(EITHER)} ) 1 c1.0")

    def test_counters(self):
        texts = set()
        for steps in range(1, 5):
            for first in range(2 * steps):
                text = f"table 1 c{steps}.{first}"
                self.assertEqual(show_guesser(("table", 1, counter(steps, first))), text)
                self.assertEqual(read_guesser(text), ("table", 1, counter(steps, first)))
                texts.add(text)
        self.assertEqual(len(texts), 20)

    def test_counters_that_there_are_not(self):
        for word in ("c0.0", "c5.0", "c1.2", "c2.4", "c3.6", "c4.8", "c4.9", "c2.-1", "c2.10", "c9.9", "c12.1"):
            self.refused(f"table 1 {word}")
        for word in ("c", "c2", "c2.", "c.1", "c21", "c2,1", "c2.01", "c02.1", "C2.1", "c2.1 ", "c 2.1", "c2..1"):
            self.refused(f"table 1 {word}")

    def test_cells_that_are_no_counter_s_by_figures(self):
        self.assertEqual(show_guesser(("table", 1, ((0,), (0,), (0,)))), "table 1 [0/0/0]")
        self.assertEqual(show_guesser(("table", 1, ((0, 1), (0, 0), (1, 0)))), "table 1 [01/00/10]")
        ring = ((0, 0, 1, 1, 0, 1, 0, 1),) + (tuple((at + 1) % 8 for at in range(8)),) * 2
        self.assertEqual(show_guesser(("table", 1, ring)), "table 1 [00110101/12345670/12345670]")
        self.assertEqual(read_guesser("table 1 [00110101/12345670/12345670]"), ("table", 1, ring))

    def test_cells_in_other_orders_than_their_plain_forms(self):
        # A counter's steps, from the least to the last one, are in order only where the first step is 0.
        in_order = ((0, 0, 1, 1), (0, 0, 1, 2), (1, 2, 3, 3))
        self.assertEqual(show_guesser(("table", 1, in_order)), "table 1 c2.0")
        turned = ((0, 1, 1, 0), (3, 2, 0, 3), (2, 1, 1, 0))
        self.assertEqual(show_guesser(("own", 2, 1, turned)), "own 2 1 c2.1")
        unmet = ((0, 1, 1), (0, 0, 2), (1, 1, 0))
        self.assertEqual(show_guesser(("table", 2, unmet)), "table 2 c1.0")
        odd = ((1, 0, 0), (1, 2, 0), (2, 2, 1))
        self.assertEqual(show_guesser(("table", 2, odd)), "table 2 [100/120/221]")
        other = ((1, 0, 0), (2, 0, 1), (1, 2, 1))
        self.assertEqual(show_guesser(("table", 2, other)), "table 2 [100/120/221]")

    def test_drawn_ones_there_and_back(self):
        draw = random.Random(121)
        for _ in range(400):
            guesser = drawn_guesser(draw)
            text = show_guesser(guesser)
            self.assertEqual(read_guesser(text), plain_guesser(guesser))
            self.assertEqual(show_guesser(plain_guesser(guesser)), text)
        for _ in range(200):
            cell = drawn_cell(draw, 8)
            self.assertEqual(read_guesser(show_guesser(("table", 2, cell))), ("table", 2, plain_cell(cell)))

    def test_the_kinds_of_what_is_told(self):
        for guesser in KINDS:
            text = show_guesser(guesser)
            self.assertIs(type(text), str)
            told = read_guesser(text)
            self.assertIs(is_guesser(told), True)
            self.assertIs(type(told), tuple)
        self.assertTrue(are_wholes(read_guesser("joined 4 2 c2.1")[1:]))

    def test_texts_that_are_nearly_ones(self):
        texts = list(GUESSERS)[:12:2] + ["either ( same 0 ) ( table 3 c2.1 ) 4 [01/00/10]"]
        for text in texts:
            read = []
            for other in nearly(text):
                try:
                    read.append((other, read_guesser(other)))
                except NoGuesser:
                    pass
            # What is read is another guesser's text, just as it is written.
            for other, guesser in read:
                self.assertIs(is_guesser(guesser), True)
                self.assertEqual(show_guesser(guesser), other)
            self.assertLess(len(read), 80)

    def test_nearly_ones_written_out(self):
        texts = (
            "", " ", "\n", "same", "same ", "same 2", "same 01", "same -1", "same 1 ", " same 1", "same  1", "same 1\n",
            "Same 1", "same 1 1", "same one", "same 1 c2.1", "table", "table 4", "table c2.1", "table 4c2.1",
            "table 4 2",
            "table 4  c2.1", "table 04 c2.1", "table 4 c2.1 c2.1", "table 4 2 c2.1", "table +4 c2.1", "mixed 4 c2.1",
            "mixed 4 2 2 c2.1", "mixed 4 02 c2.1", "own 4 2", "joined 4 c2.1 2", "either", "either ( same 0 )",
            "either ( same 0 ) ( same 1 )", "either ( same 0 ) ( same 1 ) 4", "either ( same 0 ) ( same 1 ) c2.1",
            "either (same 0) (same 1) 4 c2.1", "either ( same 0 ( same 1 ) ) 4 c2.1", "either same 0 same 1 4 c2.1",
            "either ( same 0 ) ( same 1 ) 4 c2.1 )", "either ( ( same 0 ) ) ( same 1 ) 4 c2.1", "( same 1 )",
            "(same 1)",
            "either ( same 0 ) same 1 4 c2.1", "either ) same 0 ( ) same 1 ( 4 c2.1", "either ( ) ( same 1 ) 4 c2.1",
            "either ( 12+ ) ( same 1 ) 4 c2.1", "12+", "()", "never 4 2 c2.1", "table\t4\tc2.1", "table 4\nc2.1",
        )
        for text in texts:
            self.refused(text)

    def test_sizes_and_lengths_out_of_their_bounds(self):
        for size in ("0", "17", "-1", "00", "100", "9" * 19, "9" * 2900):
            self.refused(f"table {size} c2.1")
            self.refused(f"mixed {size} 2 c2.1")
            self.refused(f"joined {size} 0 c2.1")
            self.refused(f"own {size} 2 c2.1")
            self.refused(f"either ( same 0 ) ( same 1 ) {size} c2.1")
        for length in ("7", "-1", "06", "10", "9" * 2900):
            self.refused(f"mixed 1 {length} c2.1")
            self.refused(f"joined 1 {length} c2.1")
            self.refused(f"own 1 {length} c2.1")

    def test_joined_of_more_than_64_cells(self):
        for size in range(1, 17):
            for length in range(7):
                text = f"joined {size} {length} c2.1"
                if size * 2 ** length <= 64:
                    self.assertEqual(read_guesser(text), ("joined", size, length, TWO))
                else:
                    self.refused(text)

    def test_a_counter_s_cell_written_by_figures(self):
        for steps in range(1, 5):
            for first in range(2 * steps):
                rows = ["".join(str(number) for number in row) for row in counter(steps, first)]
                self.refused("table 1 [" + "/".join(rows) + "]")

    def test_a_cell_by_figures_that_is_not_its_plain_form(self):
        self.refused("table 1 [011/200/012]")
        self.refused("table 1 [100/201/121]")
        self.refused("table 1 [00/00/00]")
        self.assertEqual(read_guesser("table 1 [100/120/221]")[2], ((1, 0, 0), (1, 2, 0), (2, 2, 1)))
        self.refused("table 1 [0000/0000/0000]")
        # Eleven states and more: those behind the tenth can't be come to by one figure.
        self.refused("table 1 [" + "/".join(["0" * 11] * 3) + "]")

    def test_what_is_no_cell(self):
        words = (
            "[]", "[//]", "[/]", "[0/0]", "[0/0/0/0]", "[2/0/0]", "[0/1/0]", "[0/0/1]", "[01/0/0]", "[0/00/0]",
            "[a/0/0]",
            "[0/0/0", "0/0/0]", "0/0/0", "(0/0/0)", "[0,0,0]", "[0/0/-]", "[0/0/0]]", "[[0/0/0]", "[0//0/0]", "[1/2/3]",
            "[01/00/12]", "[", "]", "/", "//", "c[0/0/0]", "[0/0/0]c", "[ 0/0/0]",
        )
        for word in words:
            self.refused(f"table 1 {word}")
            self.refused(f"own 1 1 {word}")
            self.refused(f"either ( same 0 ) ( same 1 ) 1 {word}")

    def test_great_cells(self):
        for many in (9, 10):
            ring = ((0,) * many,) + (tuple((at + 1) % many for at in range(many)),) * 2
            self.assertEqual(read_guesser(show_guesser(("table", 1, ring))), ("table", 1, ring))
        self.refused("table 1 [" + "/".join(["0" * 990] * 3) + "]")

    def test_guessers_four_deep(self):
        for many in (0, 1, 2):
            guesser = read_guesser(nested(many))
            self.assertIs(is_guesser(guesser), True)
            self.assertEqual(show_guesser(guesser), nested(many))
        for many in (3, 4, 10, 100):
            self.refused(nested(many))
        both = f"either ( {nested(1)} ) ( {nested(2)} ) 1 c1.0"
        self.refused(both)

    def test_brackets_thousands_deep(self):
        for part in ("either ( ", "(", "( ", "either ", "either ( same 1 ) ( ", ")", "[", "either ( ( "):
            self.refused(part * (3000 // len(part)))
            self.refused(part * (3000 // len(part)) + "same 1")
        self.refused(nested(80))

    def test_long_texts(self):
        for text in ("same " * 600, "9" * 3000, "table " + "1 " * 1490, " " * 3000, "\n" * 3000, "/" * 3000):
            self.refused(text)

    def test_drawn_texts_raise_no_other_error(self):
        draw = random.Random(122)
        words = ["same", "table", "mixed", "joined", "own", "either", "(", ")", "0", "1", "c2.1", "[0/0/0]", "", "\n"]
        for _ in range(3000):
            text = " ".join(draw.choice(words) for _ in range(draw.randint(0, 12)))
            try:
                self.assertEqual(show_guesser(read_guesser(text)), text)
            except NoGuesser:
                pass

    def test_what_is_no_text(self):
        for thing in [None, True, 0, 1, b"same 1", ["same", "1"], ("same", 1), {}] + deep_things():
            self.refused(thing)

    def test_what_was_handed_in_is_as_it_was(self):
        for guesser in KINDS:
            was = copy.deepcopy(guesser)
            show_guesser(guesser)
            self.assertEqual(guesser, was)


class Patterns(unittest.TestCase):
    def refused(self, text):
        with self.assertRaises(NoPattern) as caught:
            read_pattern(text)
        self.assertIs(type(caught.exception), NoPattern)

    def test_each_kind_as_its_text_and_back(self):
        for text, pattern in PATTERNS.items():
            self.assertIs(is_pattern(pattern), True)
            self.assertEqual(show_pattern(pattern), text)
            self.assertEqual(read_pattern(text), pattern)

    def test_drawn_ones_there_and_back(self):
        draw = random.Random(123)
        for _ in range(500):
            pattern = drawn_pattern(draw, 10 ** 18, 6)
            text = show_pattern(pattern)
            self.assertIs(type(text), str)
            self.assertEqual(read_pattern(text), pattern)

    def test_texts_that_are_nearly_ones(self):
        for text in ("12+", "()", "(12+ 3- 0+)", "3*12+", "2*3*(1+ 5*2-)", "(() (1- ()) 2+)"):
            read = []
            for other in nearly(text):
                try:
                    read.append((other, read_pattern(other)))
                except NoPattern:
                    pass
            for other, pattern in read:
                self.assertIs(is_pattern(pattern), True)
                self.assertEqual(show_pattern(pattern), other)
            self.assertLess(len(read), 600)

    def test_nearly_ones_written_out(self):
        texts = (
            "", " ", "\n", "12", "+", "-", "*", "12 +", "12+ ", " 12+", "12++", "12+-", "012+", "00+", "+12", "-12+",
            "12+\n",
            "12+ 13-", "12+13-", "(12+", "12+)", "( 12+)", "(12+ )", "( 12+ )", "(12+  13-)", "(12+13-)", "(12+,13-)",
            "(12+\n13-)", "( )", ")(", "(", ")", "(()", "())", "()()", "() ()", "3*", "*12+", "3 *12+", "3* 12+",
            "3**12+",
            "03*12+", "-3*12+", "3*12", "3*12+ ", "3*12+*2", "3*()3*()", "3(12+)", "(3*)", "(*)", "[12+]", "{12+}",
            "1e3+",
            "x+", "12x+", "0x1+", "same 1", "12+ 3*", "1_0+", "1.0+", "12*",
        )
        for text in texts:
            self.refused(text)

    def test_places(self):
        for place in (0, 9, 10, 99, 100, 999):
            self.assertEqual(read_pattern(f"{place}+"), ("way", place, 1))
        for place in ("1000", "1001", "9999", "9" * 19, "9" * 2900, "0" * 2900):
            self.refused(f"{place}+")
            self.refused(f"(1+ {place}-)")

    def test_numbers_of_times(self):
        for number in (0, 1, 10 ** 18 - 1, 10 ** 18):
            self.assertEqual(read_pattern(f"{number}*1+"), ("times", number, ("way", 1, 1)))
        for number in (10 ** 18 + 1, 10 ** 19, 10 ** 2900):
            self.refused(f"{number}*1+")
        self.refused("-1*1+")
        self.refused("00*1+")

    def test_patterns_of_twenty_one_within_one_another(self):
        for inmost in ("1+", "()"):
            self.assertIs(is_pattern(read_pattern("(" * 19 + inmost + ")" * 19)), True)
            self.assertIs(is_pattern(read_pattern("2*" * 19 + inmost)), True)
            self.assertIs(is_pattern(read_pattern("0*(" * 9 + "2*" + inmost + ")" * 9)), True)
            for many in (20, 21, 100, 700):
                self.refused("(" * many + inmost + ")" * many)
                self.refused("2*" * many + inmost)
            self.refused("0*(" * 10 + inmost + ")" * 10)
        self.refused("(1+ " * 20 + "1+" + ")" * 20)
        self.assertEqual(len(read_pattern("(1+ " * 19 + "1+" + ")" * 19)[1]), 2)

    def test_brackets_thousands_deep(self):
        for part in ("(", "(1+ ", "2*", "2*(", ")", "() ", "(() ", "*", "0*("):
            self.refused(part * (3000 // len(part)))
            self.refused(part * (2900 // len(part)) + "1+")
        self.refused("(" * 1500 + ")" * 1500)
        self.refused("(" * 1499 + "1+" + ")" * 1499)

    def test_many_parts(self):
        text = "(" + " ".join(["12+"] * 399) + ")"
        self.assertEqual(read_pattern(text), ("row", (("way", 12, 1),) * 399))
        self.refused(text[:-1])
        self.refused(text[1:])

    def test_long_texts(self):
        for text in ("9" * 3000, "9" * 2999 + "+", "1+ " * 1000, " " * 3000, "\n" * 3000, "+" * 3000):
            self.refused(text)

    def test_drawn_texts_raise_no_other_error(self):
        draw = random.Random(124)
        for _ in range(5000):
            text = "".join(draw.choice("()  12*+-") for _ in range(draw.randint(0, 10)))
            try:
                self.assertEqual(show_pattern(read_pattern(text)), text)
            except NoPattern:
                pass

    def test_what_is_no_text(self):
        for thing in [None, True, 0, 1, b"12+", ["12+"], ("way", 12, 1), {}] + deep_things():
            self.refused(thing)

    def test_what_was_handed_in_is_as_it_was(self):
        for pattern in PATTERNS.values():
            was = copy.deepcopy(pattern)
            show_pattern(pattern)
            self.assertEqual(pattern, was)


class Beyond(unittest.TestCase):
    """The interface: somewhat beyond a limit no error is raised."""

    def test_no_error(self):
        self.assertEqual(show_guesser(("table", 17, ONE)), "table 17 c1.0")
        self.assertEqual(show_guesser(("mixed", 4, 7, ODD)), "mixed 4 7 [100/120/202]")
        many = 12
        ring = ((0,) * many,) + (tuple((at + 1) % many for at in range(many)),) * 2
        self.assertIs(type(show_guesser(("table", 1, ring))), str)
        self.assertEqual(show_pattern(("way", 1000, 1)), "1000+")
        self.assertEqual(show_pattern(("times", 10 ** 19, ("way", 0, 0))), f"{10 ** 19}*0-")


if __name__ == "__main__":
    unittest.main()
