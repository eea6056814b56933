"""A plain guesser that is gone through event by event, and things to try it on, for the tests.

It keeps all ways that were learned and counts the last ones anew each time, so that it shares no step with the
program but what the document says.
"""

import random

from wayguess.cells import counter
from wayguess.guessers import first_state, guess, learned

ONE = ((0, 1), (0, 0), (1, 1))
TWO = counter(2, 1)
TURNING = ((0, 1), (1, 0), (1, 0))
ODD = ((1, 0, 0), (2, 0, 1), (1, 1, 0))

SAME = ("same", 1)
TABLE = ("table", 3, TWO)
MIXED = ("mixed", 5, 3, TWO)
JOINED = ("joined", 3, 2, ODD)
OWN = ("own", 3, 2, TWO)
EITHER = ("either", MIXED, OWN, 2, TWO)
DEEP_EITHER = ("either", ("either", TABLE, SAME, 3, ODD), EITHER, 1, ONE)
ANYTHING = (
    None, True, 0, -1, 10 ** 30, "", "paper", b"", [], [[]], {}, {1: 2}, {1}, (), ((), (), ()), object(),
)
KINDS = (SAME, ("same", 0), TABLE, MIXED, JOINED, OWN, EITHER, DEEP_EITHER)


class Plain:
    """A guesser that goes on by itself."""

    def __init__(self, guesser):
        self.guesser = guesser
        self.learned = []
        self.cells = {}
        if guesser[0] == "either":
            self.both = [Plain(guesser[1]), Plain(guesser[2])]

    def number(self, asked):
        """The last ways as a number, those of the asked places."""
        told = [way for place, way in self.learned if asked(place)]
        length = self.guesser[2]
        return sum(way * 2 ** back for back, way in enumerate(told[::-1][:length]))

    def at(self, place):
        word = self.guesser[0]
        if word == "either":
            return place % self.guesser[3]
        size = self.guesser[1]
        if word == "table":
            return place % size
        if word == "mixed":
            return (place + self.number(lambda other: True)) % size
        if word == "joined":
            return 2 ** self.guesser[2] * (place % size) + self.number(lambda other: True)
        return self.number(lambda other: other % size == place % size)

    def guess(self, place):
        if self.guesser[0] == "same":
            return self.guesser[1]
        guessed = self.guesser[-1][0][self.cells.get(self.at(place), 0)]
        if self.guesser[0] == "either":
            return self.both[guessed].guess(place)
        return guessed

    def go_on(self, place, way):
        if self.guesser[0] == "same":
            return
        at = self.at(place)
        by = [way]
        if self.guesser[0] == "either":
            right = [one.guess(place) == way for one in self.both]
            by = {(True, False): [0], (False, True): [1]}.get(tuple(right), [])
            for one in self.both:
                one.go_on(place, way)
        for step in by:
            self.cells[at] = self.guesser[-1][1 + step][self.cells.get(at, 0)]
        self.learned.append((place, way))

    def state(self):
        word = self.guesser[0]
        if word == "same":
            return ()
        many = {
            "joined": lambda: self.guesser[1] * 2 ** self.guesser[2],
            "own": lambda: 2 ** self.guesser[2],
            "either": lambda: self.guesser[3],
        }.get(word, lambda: self.guesser[1])()
        cells = tuple(self.cells.get(at, 0) for at in range(many))
        if word == "table":
            return cells
        if word == "either":
            return (self.both[0].state(), self.both[1].state(), cells)
        if word == "own":
            rows = self.guesser[1]
            numbers = [self.number(lambda other, row=row: other % rows == row) for row in range(rows)]
            return (tuple(numbers), cells)
        return (self.number(lambda other: True), cells)

    def along(self, run):
        """For each event of a run 1 where it is missed, else 0."""
        told = []
        for place, way in run:
            told.append(int(self.guess(place) != way))
            self.go_on(place, way)
        return told


def written_out(pattern):
    """The run of a pattern of few events, one event at a time."""
    if pattern[0] == "way":
        return [(pattern[1], pattern[2])]
    if pattern[0] == "row":
        return [event for part in pattern[1] for event in written_out(part)]
    return [event for _ in range(pattern[1]) for event in written_out(pattern[2])]


def states_come_to(guesser, events, most):
    """All states that can be come to by these events, or None where there are more than most."""
    return all_from(
        first_state(guesser), lambda state: [learned(guesser, state, place, way) for place, way in events], most
    )


def all_from(first, behind, most):
    """All that can be come to, what is behind each as told; or None where there are more than most."""
    known = [first]
    seen = set(known)
    for one in known:
        for other in behind(one):
            if other not in seen:
                seen.add(other)
                known.append(other)
        if len(known) > most:
            return None
    return known


def by_squaring(guesser, states, pattern):
    """For each state (misses, state behind) of a pattern ever so long: passes are doubled, loops not looked for."""
    if pattern[0] == "way":
        place, way = pattern[1:]
        return {one: (int(guess(guesser, one, place) != way), learned(guesser, one, place, way)) for one in states}
    told = {state: (0, state) for state in states}
    if pattern[0] == "row":
        for part in pattern[1]:
            told = one_behind_the_other(told, by_squaring(guesser, states, part))
        return told
    doubled = by_squaring(guesser, states, pattern[2])
    for figure in bin(pattern[1])[:1:-1]:
        if figure == "1":
            told = one_behind_the_other(told, doubled)
        doubled = one_behind_the_other(doubled, doubled)
    return told


def one_behind_the_other(first, second):
    told = {}
    for state, (misses, behind) in first.items():
        more, last = second[behind]
        told[state] = (misses + more, last)
    return told


def drawn_cell(draw, most=4):
    many = draw.randint(1, most)
    guesses = tuple(draw.randrange(2) for _ in range(many))
    return (guesses, *(tuple(draw.randrange(many) for _ in range(many)) for _ in range(2)))


def drawn_guesser(draw, room=3):
    word = draw.choice(("same", "table", "mixed", "joined", "own", "either"))
    size = draw.randint(1, 5)
    if word == "same":
        return ("same", draw.randrange(2))
    if word == "table":
        return ("table", size, drawn_cell(draw))
    if word == "either" and room > 1:
        return ("either", drawn_guesser(draw, room - 1), drawn_guesser(draw, room - 1), size, drawn_cell(draw))
    if word == "either":
        word = "mixed"
    return (word, size, draw.randint(0, 3), drawn_cell(draw))


def drawn_run(draw, many, last=12):
    return [(draw.randint(0, last), draw.randrange(2)) for _ in range(many)]


def drawn_pattern(draw, most=4, room=4):
    word = draw.choice(("way", "way", "row", "row", "times")) if room > 1 else "way"
    if word == "way":
        return ("way", draw.randint(0, 12), draw.randrange(2))
    if word == "row":
        return ("row", tuple(drawn_pattern(draw, most, room - 1) for _ in range(draw.randint(0, 4))))
    return ("times", draw.randint(0, most), drawn_pattern(draw, most, room - 1))


def are_wholes(thing):
    """Whether a thing is through and through tuples of whole numbers, exactly of these kinds."""
    if type(thing) is tuple:
        return all(are_wholes(item) for item in thing)
    return type(thing) is int


def pairs_come_to(one, other, places, most):
    """All pairs of states that can be come to by runs at these places, or None where there are more than most."""
    events = [(place, way) for place in places for way in (0, 1)]
    return all_from(
        (first_state(one), first_state(other)),
        lambda pair: [pair_behind(one, other, pair, place, way) for place, way in events],
        most,
    )


def pair_behind(one, other, pair, place, way):
    return (learned(one, pair[0], place, way), learned(other, pair[1], place, way))


def difference(one, other, pair, place, way):
    """How much more the first guesser misses an event than the second one."""
    return int(guess(one, pair[0], place) != way) - int(guess(other, pair[1], place) != way)


def drawn_places(draw, most=4, last=12):
    return sorted(draw.sample(range(last + 1), draw.randint(1, most)))


def drawn_pairs(seed, many, most):
    """Pairs of guessers with places, and the pairs of states that can be come to, at most so many."""
    draw = random.Random(seed)
    told = []
    while len(told) < many:
        one = drawn_guesser(draw, 2)
        other = drawn_guesser(draw, 2)
        if draw.randrange(2) == 0 and one[0] != "same":
            # A guesser of the same kind with another cell: these part later, if at all.
            other = one[:-1] + (drawn_cell(draw),)
        places = drawn_places(draw)
        pairs = pairs_come_to(one, other, places, most)
        if pairs is not None:
            told.append((one, other, places, pairs))
    return told


def drawn_flow(draw, many):
    """A flow of so many nodes; each third node or so has one way alone."""
    told = []
    for _ in range(many):
        straight, aside = draw.randrange(many), draw.randrange(many)
        left = draw.randrange(6)
        told.append((draw.randint(0, 12), None if left == 0 else straight, None if left == 1 else aside))
    return tuple(told)
