"""The best cell of so many states for a row of ways."""

from wayguess.cells import state_behind


def cell_misses(cell, ways):
    """The misses of a cell in a run at one place that takes these ways."""
    misses = 0
    state = 0
    for way in ways:
        if cell[0][state] != way:
            misses += 1
        state = state_behind(cell, state, way)
    return misses


def best_cell(ways, many):
    """(misses, cell): the fewest misses that a cell of at most so many states has, and the first such cell."""
    best = None
    # Of 0 states, somewhat beyond the bound, there is no cell: the least has one.
    for states in range(1, max(many, 1) + 1):
        for straight, aside in plain_turns(states):
            misses, guesses = best_guesses(ways, straight, aside)
            found = (misses, states, (guesses, straight, aside))
            if best is None or found < best:
                best = found
    return best[0], best[2]


def plain_turns(many):
    """All (straight, aside) of the plain forms of cells that have just so many states."""
    # A plain form names its states in the order in which they are met, so
    # each turn leads to a state that has been met or to the next new one.
    begun = [((), (), 1)]
    for state in range(many):
        longer = []
        for straight, aside, met in begun:
            # A state that no state ahead of it leads to can't be come to.
            if state < met:
                longer.extend(with_turns(straight, aside, met, many))
        begun = longer
    return [(straight, aside) for straight, aside, met in begun if met == many]


def with_turns(straight, aside, met, many):
    """The rows with each pair of turns of one state more, and how many states are then met."""
    told = []
    for low in range(min(met + 1, many)):
        then = max(met, low + 1)
        for high in range(min(then + 1, many)):
            told.append((straight + (low,), aside + (high,), max(then, high + 1)))
    return told


def best_guesses(ways, straight, aside):
    """The fewest misses that a cell with these turns can have, and the first guesses that have them."""
    taken = [[0, 0] for state in straight]
    state = 0
    for way in ways:
        taken[state][way] += 1
        state = straight[state] if way == 0 else aside[state]
    guesses = tuple(0 if counts[0] >= counts[1] else 1 for counts in taken)
    return sum(min(counts) for counts in taken), guesses
