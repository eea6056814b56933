"""Runs, and the patterns that stand for them."""

from wayguess.errors import NoRun
from wayguess.states import is_whole_between, word_of

LAST_PLACE = 999
MOST_TIMES = 10 ** 18
MOST_WITHIN = 20
MOST_EVENTS = 400


def is_pattern(thing):
    """Whether a thing, of any kind, is a pattern."""
    return is_pattern_within(thing, MOST_WITHIN)


def is_pattern_within(thing, room):
    """Whether a thing is a pattern of at most room patterns within one another."""
    # The room is counted down on the way in, so that a thing that is
    # thousands deep is refused before it is gone into.
    if room < 1:
        return False
    word = word_of(thing)
    if word == "way":
        return is_way(thing)
    if word == "row":
        return is_row_within(thing, room)
    return word == "times" and is_times_within(thing, room)


def is_way(thing):
    """Whether a tuple that begins with "way" is a pattern."""
    return len(thing) == 3 and is_whole_between(thing[1], 0, LAST_PLACE) and is_whole_between(thing[2], 0, 1)


def is_row_within(thing, room):
    """Whether a tuple that begins with "row" is a pattern that has room."""
    if len(thing) != 2 or not isinstance(thing[1], tuple):
        return False
    return all(is_pattern_within(part, room - 1) for part in thing[1])


def is_times_within(thing, room):
    """Whether a tuple that begins with "times" is a pattern that has room."""
    if len(thing) != 3 or not is_whole_between(thing[1], 0, MOST_TIMES):
        return False
    return is_pattern_within(thing[2], room - 1)


def many_events(pattern):
    """How many events the run has for which a pattern stands."""
    if pattern[0] == "way":
        return 1
    if pattern[0] == "row":
        return sum(many_events(part) for part in pattern[1])
    return pattern[1] * many_events(pattern[2])


def run_of(pattern):
    """The run for which a pattern stands; NoRun where it has more than 400 events."""
    if many_events(pattern) > MOST_EVENTS:
        raise NoRun("a run of more than 400 events")
    return events_of(pattern)


def events_of(pattern):
    """The events of a pattern that is known to have few of them."""
    if pattern[0] == "way":
        return [(pattern[1], pattern[2])]
    if pattern[0] == "row":
        return [event for part in pattern[1] for event in events_of(part)]
    # What comes 0 times may be ever so long in itself, and what has no
    # events may come ever so often: neither is gone through.
    if many_events(pattern) == 0:
        return []
    return events_of(pattern[2]) * pattern[1]
