"""Rounds that come again and again, for ever."""

from wayguess.guessers import first_state
from wayguess.patterns import Walk
from wayguess.states import is_same_state, is_whole


def behind_ahead(walk, ahead):
    """The misses of the pattern ahead from the first state on, and the state behind it."""
    # As a repeated body, of one pass, since the round may be the same pattern:
    # then what is found here isn't gone through again.
    return walk.repeated(walk.body_of(ahead), first_state(walk.guesser), 1)


def for_ever(guesser, ahead, around):
    """(passes, round, misses, more): when the states ahead of the passes come round, and the misses till then."""
    walk = Walk(guesser)
    body = walk.body_of(around)
    misses, state = behind_ahead(walk, ahead)
    known = {}
    while state not in known:
        known[state] = (len(known), misses)
        more, state = walk.repeated(body, state, 1)
        misses += more
    passes, before = known[state]
    return passes, len(known) - passes, before, misses - before


def misses_behind(guesser, ahead, around, passes):
    """The misses of the pattern ahead and so many passes of the round."""
    walk = Walk(guesser)
    misses, state = behind_ahead(walk, ahead)
    return misses + walk.repeated(walk.body_of(around), state, passes)[0]


def is_round(guesser, ahead, around, told, state):
    """Whether a thing, of any kind, is numbers such as for_ever tells, with the state that comes again."""
    if not are_round_numbers(told):
        return False
    passes, length, misses, more = told
    walk = Walk(guesser)
    body = walk.body_of(around)
    to_ahead, begun = behind_ahead(walk, ahead)
    to_state, there = walk.repeated(body, begun, passes)
    around_misses, again = walk.repeated(body, there, length)
    if not is_same_state(state, there) or not is_same_state(state, again):
        return False
    return misses == to_ahead + to_state and more == around_misses


def are_round_numbers(told):
    """Whether a thing is a tuple of four whole numbers, of which the first two can be passes and a round."""
    if not isinstance(told, tuple) or len(told) != 4:
        return False
    return all(is_whole(number) for number in told) and told[0] >= 0 and told[1] >= 1
