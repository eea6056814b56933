"""Pairs of two guessers' states, and the steps from pair to pair at some places."""

from wayguess.guessers import first_state, guess, learned, rests_of


class Learner:
    """One guesser's states by numbers, and what it does in them at some places, found once."""

    def __init__(self, guesser, places):
        self.guesser = guesser
        # The first of the places that have the same rests is asked for all of them.
        self.asked = []
        self.spots = {}
        self.states = []
        self.numbers = {}
        self.guesses = {}
        self.behinds = {}
        known = {}
        for place in places:
            rests = rests_of(guesser, place)
            if rests not in known:
                known[rests] = len(self.asked)
                self.asked.append(place)
            self.spots[place] = known[rests]

    def number_of(self, state):
        """The number of a state; a new one where it is new."""
        if state not in self.numbers:
            self.numbers[state] = len(self.states)
            self.states.append(state)
        return self.numbers[state]

    def guesses_in(self, number):
        """For each asked place the guess in a state."""
        if number not in self.guesses:
            state = self.states[number]
            self.guesses[number] = [guess(self.guesser, state, place) for place in self.asked]
        return self.guesses[number]

    def behind(self, number):
        """For each asked place the states behind a way 0 and a way 1."""
        if number not in self.behinds:
            state = self.states[number]
            told = [[learned(self.guesser, state, place, way) for way in (0, 1)] for place in self.asked]
            self.behinds[number] = [(self.number_of(straight), self.number_of(aside)) for straight, aside in told]
        return self.behinds[number]


class Pairs:
    """Pairs of the numbers of two guessers' states."""

    def __init__(self, one, other, places):
        rising = sorted(places)
        self.one = Learner(one, rising)
        self.other = Learner(other, rising)
        self.first = self.pair_of(first_state(one), first_state(other))
        # Places that are alike for both guessers lead to the same pairs: the
        # first of them stands for all.
        self.asked = []
        known = {}
        for place in rising:
            spots = (self.one.spots[place], self.other.spots[place])
            if spots not in known:
                known[spots] = True
                self.asked.append((place, spots[0], spots[1]))

    def pair_of(self, state, other):
        """The pair of two states."""
        return self.one.number_of(state), self.other.number_of(other)

    def states_of(self, pair):
        """The two states of a pair."""
        return self.one.states[pair[0]], self.other.states[pair[1]]

    def parting_place(self, pair):
        """The first place at which the guessers don't guess alike, or None."""
        guesses = self.one.guesses_in(pair[0])
        others = self.other.guesses_in(pair[1])
        for place, spot, other_spot in self.asked:
            if guesses[spot] != others[other_spot]:
                return place
        return None

    def steps_from(self, pair):
        """Each pair behind one event, by the first such event, with the event's difference."""
        guesses = self.one.guesses_in(pair[0])
        others = self.other.guesses_in(pair[1])
        behind = self.one.behind(pair[0])
        others_behind = self.other.behind(pair[1])
        told = {}
        for place, spot, other_spot in self.asked:
            for way in (0, 1):
                gain = miss_of(guesses[spot], way) - miss_of(others[other_spot], way)
                step = (behind[spot][way], others_behind[other_spot][way], gain)
                if step not in told:
                    told[step] = (place, way)
        return [(event, step[:2], step[2]) for step, event in told.items()]


def miss_of(guessed, way):
    """1 where a guess is not the way, else 0."""
    return 0 if guessed == way else 1
