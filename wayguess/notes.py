"""Guessers and patterns as texts, and such texts read back."""

from wayguess.cells import counter, plain_cell
from wayguess.errors import NoGuesser, NoPattern
from wayguess.guessers import MOST_DEEP, is_guesser
from wayguess.runs import MOST_WITHIN, is_pattern

FIGURES = ("0", "1", "2", "3", "4", "5", "6", "7", "8", "9")
# As many as 10 ** 18 has, the greatest number that is written.
MOST_FIGURES = 19
MOST_STEPS = 4


def show_guesser(guesser):
    """The text of a guesser."""
    word = guesser[0]
    if word == "same":
        return f"same {guesser[1]}"
    cell = show_cell(guesser[-1])
    if word == "table":
        return f"table {guesser[1]} {cell}"
    if word == "either":
        return f"either ( {show_guesser(guesser[1])} ) ( {show_guesser(guesser[2])} ) {guesser[3]} {cell}"
    return f"{word} {guesser[1]} {guesser[2]} {cell}"


def show_cell(cell):
    """The text of a cell's plain form."""
    plain = plain_cell(cell)
    for steps in range(1, MOST_STEPS + 1):
        for first in range(2 * steps):
            if counter(steps, first) == plain:
                return f"c{steps}.{first}"
    rows = ["".join(str(number) for number in row) for row in plain]
    return "[" + "/".join(rows) + "]"


def show_pattern(pattern):
    """The text of a pattern."""
    if pattern[0] == "way":
        sign = "+" if pattern[2] == 1 else "-"
        return f"{pattern[1]}{sign}"
    if pattern[0] == "row":
        parts = " ".join([show_pattern(part) for part in pattern[1]])
        return f"({parts})"
    return f"{pattern[1]}*{show_pattern(pattern[2])}"


class Reader:
    """A row of words, or of signs, that is read one by one."""

    def __init__(self, row):
        self.row = row
        self.at = 0

    def here(self):
        """What is to be read next; at the end the empty text."""
        return self.row[self.at] if self.at < len(self.row) else ""

    def take(self):
        """What is to be read next, and go on."""
        taken = self.here()
        self.at += 1
        return taken


def number_in(word):
    """The number of a word of figures; -1, which is written nowhere, of another one."""
    if not 1 <= len(word) <= MOST_FIGURES or not all(sign in FIGURES for sign in word):
        return -1
    return int(word)


# The readers take a text for what it may be; whether it is just so is told by
# writing it once more. So they need not look at brackets, blanks or noughts.
def read_guesser(text):
    """The guesser of a text; NoGuesser where the text is none's."""
    if not isinstance(text, str):
        raise NoGuesser("no text")
    guesser = guesser_from(Reader(text.split(" ")), MOST_DEEP)
    if not is_guesser(guesser) or show_guesser(guesser) != text:
        raise NoGuesser("no guesser is written so")
    return guesser


def guesser_from(reader, room):
    """What may be a guesser, of at most room within one another."""
    word = reader.take()
    if word == "same":
        return word, number_in(reader.take())
    if word == "table":
        return word, number_in(reader.take()), cell_in(reader.take())
    if word in ("mixed", "joined", "own"):
        return word, number_in(reader.take()), number_in(reader.take()), cell_in(reader.take())
    if word != "either" or room < 2:
        raise NoGuesser("no guesser begins so, or it is too deep")
    one = guesser_in_brackets(reader, room - 1)
    other = guesser_in_brackets(reader, room - 1)
    return word, one, other, number_in(reader.take()), cell_in(reader.take())


def guesser_in_brackets(reader, room):
    """What may be a guesser between two words that may be brackets."""
    reader.take()
    guesser = guesser_from(reader, room)
    reader.take()
    return guesser


def cell_in(word):
    """What may be the cell of a word."""
    if word[:1] == "c":
        return counter_in(word)
    return tuple(tuple(number_in(sign) for sign in row) for row in word[1:-1].split("/"))


def counter_in(word):
    """The counter of a word such as c2.1; of one that names no counter a tuple that is no cell."""
    steps = number_in(word[1:2])
    first = number_in(word[3:])
    if not 1 <= steps <= MOST_STEPS or not 0 <= first < 2 * steps:
        return ()
    return counter(steps, first)


def read_pattern(text):
    """The pattern of a text; NoPattern where the text is none's."""
    if not isinstance(text, str):
        raise NoPattern("no text")
    pattern = pattern_from(Reader(text), MOST_WITHIN)
    if not is_pattern(pattern) or show_pattern(pattern) != text:
        raise NoPattern("no pattern is written so")
    return pattern


def pattern_from(reader, room):
    """What may be a pattern, of at most room within one another."""
    if room < 1:
        raise NoPattern("too many patterns within one another")
    if reader.here() == "(":
        return row_from(reader, room)
    figures = []
    while reader.here() in FIGURES:
        figures.append(reader.take())
    number = number_in("".join(figures))
    sign = reader.take()
    if sign == "*":
        return "times", number, pattern_from(reader, room - 1)
    if sign not in ("+", "-"):
        raise NoPattern("no pattern begins so")
    return "way", number, 1 if sign == "+" else 0


def row_from(reader, room):
    """What may be a row, from its bracket on."""
    reader.take()
    parts = []
    while reader.here() != ")":
        if len(parts) > 0:
            reader.take()
        parts.append(pattern_from(reader, room - 1))
    reader.take()
    return "row", tuple(parts)
