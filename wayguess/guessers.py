"""Guessers: what they guess at a place, and how they learn a way."""

from wayguess.cells import are_up_to, is_cell, state_behind
from wayguess.states import is_whole_between, word_of

MOST_SIZE = 16
MOST_LENGTH = 6
MOST_JOINED = 64
MOST_DEEP = 3


def is_guesser(thing):
    """Whether a thing, of any kind, is a guesser."""
    return is_guesser_within(thing, MOST_DEEP)


def is_guesser_within(thing, room):
    """Whether a thing is a guesser of at most room guessers within one another."""
    # The room is counted down on the way in, so that a thing that is
    # thousands deep is refused before it is gone into.
    if room < 1:
        return False
    word = word_of(thing)
    if word == "same":
        return len(thing) == 2 and is_whole_between(thing[1], 0, 1)
    if word == "table":
        return len(thing) == 3 and is_size(thing[1]) and is_cell(thing[2])
    if word == "either":
        return is_either_within(thing, room)
    return word in ("mixed", "joined", "own") and is_with_last_ways(thing)


def is_size(thing):
    """Whether a thing is a size, or a number of rows."""
    return is_whole_between(thing, 1, MOST_SIZE)


def is_with_last_ways(thing):
    """Whether a tuple that begins with "mixed", "joined" or "own" is a guesser."""
    if len(thing) != 4 or not is_size(thing[1]) or not is_whole_between(thing[2], 0, MOST_LENGTH):
        return False
    if thing[0] == "joined" and thing[1] * many_numbers(thing[2]) > MOST_JOINED:
        return False
    return is_cell(thing[3])


def is_either_within(thing, room):
    """Whether a tuple that begins with "either" is a guesser that has room."""
    if len(thing) != 5 or not is_size(thing[3]) or not is_cell(thing[4]):
        return False
    return is_guesser_within(thing[1], room - 1) and is_guesser_within(thing[2], room - 1)


def size_of(guesser):
    """The size, or the number of rows, by which a guesser takes the rest of a place."""
    size = guesser[3] if guesser[0] == "either" else guesser[1]
    # Sizes below 1 are no guesser's, but may be handed in and are no error:
    # then there is one cell, so that no place lacks one.
    return max(size, 1)


def many_numbers(length):
    """How many numbers there are of so many last ways."""
    # Lengths below 0 are taken as 0, as sizes below 1 are as 1.
    return 1 << max(length, 0)


def many_cells(guesser):
    """How many cells a guesser has, those of both within counted."""
    if guesser[0] == "either":
        return many_cells(guesser[1]) + many_cells(guesser[2]) + many_own_cells(guesser)
    return many_own_cells(guesser)


def many_own_cells(guesser):
    """How many cells a guesser has besides those of the guessers within."""
    if guesser[0] == "same":
        return 0
    if guesser[0] == "joined":
        return size_of(guesser) * many_numbers(guesser[2])
    if guesser[0] == "own":
        return many_numbers(guesser[2])
    return size_of(guesser)


def rests_of(guesser, place):
    """The rests of a place by a guesser's sizes: at places with the same ones it does the same."""
    if guesser[0] == "same":
        return ()
    rest = place % size_of(guesser)
    if guesser[0] == "either":
        return (rest,) + rests_of(guesser[1], place) + rests_of(guesser[2], place)
    return (rest,)


def first_state(guesser):
    """The state in which a guesser begins."""
    cells = (0,) * many_own_cells(guesser)
    if guesser[0] in ("same", "table"):
        return cells
    if guesser[0] == "either":
        return first_state(guesser[1]), first_state(guesser[2]), cells
    if guesser[0] == "own":
        return (0,) * size_of(guesser), cells
    return 0, cells


def is_state(guesser, thing):
    """Whether a thing, of any kind, is a state of a guesser, whether or not it can be come to."""
    if guesser[0] in ("same", "table"):
        return are_own_cells(guesser, thing)
    many = 3 if guesser[0] == "either" else 2
    if not isinstance(thing, tuple) or len(thing) != many or not are_own_cells(guesser, thing[-1]):
        return False
    if guesser[0] == "either":
        return is_state(guesser[1], thing[0]) and is_state(guesser[2], thing[1])
    last = many_numbers(guesser[2]) - 1
    if guesser[0] == "own":
        return isinstance(thing[0], tuple) and len(thing[0]) == size_of(guesser) and are_up_to(thing[0], last)
    return is_whole_between(thing[0], 0, last)


def are_own_cells(guesser, thing):
    """Whether a thing, of any kind, is a tuple of the states of a guesser's own cells."""
    if not isinstance(thing, tuple) or len(thing) != many_own_cells(guesser):
        return False
    return guesser[0] == "same" or are_up_to(thing, len(guesser[-1][0]) - 1)


def guess(guesser, state, place):
    """What a guesser guesses at a place in a state."""
    if guesser[0] == "same":
        return guesser[1]
    cells = state if guesser[0] == "table" else state[-1]
    guessed = guesser[-1][0][cells[cell_at(guesser, state, place)]]
    if guesser[0] == "either":
        return guess(guesser[1 + guessed], state[guessed], place)
    return guessed


def learned(guesser, state, place, way):
    """The state of a guesser behind a way at a place."""
    return guess_and_state(guesser, state, place, way)[1]


def guess_and_state(guesser, state, place, way):
    """What a guesser guesses at a place in a state, and its state behind a way there."""
    word = guesser[0]
    if word == "same":
        return guesser[1], state
    if word == "either":
        return guess_and_state_of_either(guesser, state, place, way)
    cells = state if word == "table" else state[1]
    at = cell_at(guesser, state, place)
    guessed = guesser[-1][0][cells[at]]
    cells = with_item(cells, at, state_behind(guesser[-1], cells[at], way))
    if word == "table":
        return guessed, cells
    return guessed, (last_ways_behind(guesser, state[0], place, way), cells)


def guess_and_state_of_either(guesser, state, place, way):
    """The guess of an either guesser, and its state behind a way."""
    first, one = guess_and_state(guesser[1], state[0], place, way)
    second, other = guess_and_state(guesser[2], state[1], place, way)
    cell = guesser[4]
    cells = state[2]
    at = cell_at(guesser, state, place)
    guessed = first if cell[0][cells[at]] == 0 else second
    if (first == way) != (second == way):
        cells = with_item(cells, at, state_behind(cell, cells[at], 0 if first == way else 1))
    return guessed, (one, other, cells)


def cell_at(guesser, state, place):
    """Which one of its own cells a guesser asks at a place in a state."""
    size = size_of(guesser)
    if guesser[0] == "mixed":
        return (place + state[0]) % size
    if guesser[0] == "joined":
        return many_numbers(guesser[2]) * (place % size) + state[0]
    if guesser[0] == "own":
        return state[0][place % size]
    return place % size


def last_ways_behind(guesser, told, place, way):
    """The number of the last ways, or the numbers of own rows, behind a way at a place."""
    if guesser[0] != "own":
        return number_behind(told, guesser[2], way)
    row = place % size_of(guesser)
    return with_item(told, row, number_behind(told[row], guesser[2], way))


def number_behind(number, length, way):
    """The number of the last ways once it has taken a way in."""
    return (2 * number + way) % many_numbers(length)


def with_item(row, at, item):
    """The tuple that has another item at one place."""
    return row[:at] + (item,) + row[at + 1:]
