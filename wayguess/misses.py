"""The misses of a guesser in a run."""

from wayguess.guessers import first_state, guess_and_state


def missed(guesser, run):
    """For each event of a run 1 where the guesser missed it, else 0."""
    told = []
    state = first_state(guesser)
    for place, way in run:
        miss, state = miss_and_state(guesser, state, place, way)
        told.append(miss)
    return told


def by_places(guesser, run):
    """For each place of a run, rising: the place, its events, the missed ones of these."""
    events = {}
    misses = {}
    for (place, way), miss in zip(run, missed(guesser, run)):
        events[place] = events.get(place, 0) + 1
        misses[place] = misses.get(place, 0) + miss
    return [(place, events[place], misses[place]) for place in sorted(events)]


def passed(guesser, state, run):
    """The misses of a run from a state on, and the state behind it."""
    misses = 0
    for place, way in run:
        miss, state = miss_and_state(guesser, state, place, way)
        misses += miss
    return misses, state


def miss_and_state(guesser, state, place, way):
    """1 where the guesser misses an event, else 0; and the state behind it."""
    guessed, behind = guess_and_state(guesser, state, place, way)
    return 0 if guessed == way else 1, behind
