"""Cells: small machines that guess a way and go on by it."""

from wayguess.states import is_whole_between


def is_cell(thing):
    """Whether a thing, of any kind, is a cell."""
    if not isinstance(thing, tuple) or len(thing) != 3:
        return False
    if not all(isinstance(row, tuple) for row in thing):
        return False
    guesses, straight, aside = thing
    last = len(guesses) - 1
    if last < 0 or len(straight) != len(guesses) or len(aside) != len(guesses):
        return False
    return are_up_to(guesses, 1) and are_up_to(straight, last) and are_up_to(aside, last)


def are_up_to(row, last):
    """Whether a row has nothing in it but whole numbers from 0 to last."""
    return all(is_whole_between(thing, 0, last) for thing in row)


def state_behind(cell, state, way):
    """The state of a cell behind a way."""
    return cell[1][state] if way == 0 else cell[2][state]


def counter(steps, first):
    """The cell that counts up by a way 1 and down by a way 0, from the first step on."""
    last = 2 * steps - 1

    def guessed(step):
        return 0 if step < steps else 1

    def behind(step):
        return max(step - 1, 0), min(step + 1, last)

    return cell_as_met(first, guessed, behind)


def plain_cell(cell):
    """The plain form of a cell."""
    guesses, straight, aside = cell

    def guessed(state):
        return guesses[state]

    def behind(state):
        return straight[state], aside[state]

    return cell_as_met(0, guessed, behind)


def cell_as_met(first, guessed, behind):
    """The cell that begins at first, its states in the order in which they are met."""
    met = states_met(first, behind)
    number_of = {state: number for number, state in enumerate(met)}
    guesses = tuple(guessed(state) for state in met)
    straight = tuple(number_of[behind(state)[0]] for state in met)
    aside = tuple(number_of[behind(state)[1]] for state in met)
    return guesses, straight, aside


def states_met(first, behind):
    """All that can be come to from first, in the order in which it is met."""
    met = [first]
    known = {first: True}
    at = 0
    while at < len(met):
        pair = behind(met[at])
        for state in pair:
            if state not in known:
                known[state] = True
                met.append(state)
        at += 1
    return met
