"""One guesser against another: by how much its misses can be ahead, over all runs."""

from wayguess.charts import Climb, charted, events_to, is_settled
from wayguess.guessers import is_state
from wayguess.pairs import Pairs
from wayguess.states import is_whole


def ahead_by(one, other, places):
    """("at most", number, run, paper), or ("ever more", run, loop) where the difference has no bound."""
    pairs = Pairs(one, other, places)
    chart, steps = charted(pairs, pairs.first)
    climb = Climb(steps, [0] + [None] * (len(steps) - 1))
    looped = climb.up_to_loop()
    if looped is not None:
        return "ever more", events_to(chart.ways, looped), events_to(climb.ways, looped)
    number = max(climb.heights)
    run = events_to(climb.ways, climb.heights.index(number))
    paper = [pairs.states_of(pair) + (height,) for pair, height in zip(chart.nodes, climb.heights)]
    return "at most", number, run, sorted(paper)


def is_bound(one, other, places, paper, number):
    """Whether a paper, a list of anything, shows that no run has a greater difference than the number."""
    if not isinstance(paper, list) or not all(is_line(one, other, line, number) for line in paper):
        return False
    pairs = Pairs(one, other, places)
    heights = {pairs.pair_of(line[0], line[1]): line[2] for line in paper}
    if len(heights) != len(paper) or heights.get(pairs.first, -1) < 0:
        return False
    return all(is_settled(heights, pair, pairs.steps_from(pair)) for pair in heights)


def is_line(one, other, thing, number):
    """Whether a thing, of any kind, is a tuple of a state of each guesser and a whole number up to the number."""
    if not isinstance(thing, tuple) or len(thing) != 3:
        return False
    return is_state(one, thing[0]) and is_state(other, thing[1]) and is_whole(thing[2]) and thing[2] <= number
