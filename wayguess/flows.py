"""Flow charts, and the shares of misses of their endless ways."""

from wayguess.charts import Climb, charted, events_to, is_settled
from wayguess.guessers import first_state, is_state
from wayguess.misses import miss_and_state, passed
from wayguess.runs import LAST_PLACE
from wayguess.states import is_whole, is_whole_between

MOST_NODES = 24


def is_flow(thing):
    """Whether a thing, of any kind, is a flow."""
    if not isinstance(thing, tuple) or not 1 <= len(thing) <= MOST_NODES:
        return False
    return all(is_node(node, len(thing)) for node in thing)


def is_node(thing, many):
    """Whether a thing is a node of a flow that has so many."""
    if not isinstance(thing, tuple) or len(thing) != 3 or not is_whole_between(thing[0], 0, LAST_PLACE):
        return False
    taken = [node for node in thing[1:] if node is not None]
    return len(taken) > 0 and all(is_whole_between(node, 0, many - 1) for node in taken)


class Ground:
    """A flow as a guesser goes along it: spots (node, state), and the steps from spot to spot."""

    def __init__(self, guesser, flow):
        self.guesser = guesser
        self.flow = flow
        self.first = (0, first_state(guesser))

    def steps_from(self, spot):
        """The spots behind the ways that may be taken, with the misses."""
        node, state = spot
        place = self.flow[node][0]
        told = []
        for way in (0, 1):
            target = self.flow[node][1 + way]
            if target is not None:
                miss, behind = miss_and_state(self.guesser, state, place, way)
                told.append(((place, way), (target, behind), miss))
        return told


def weighed(steps, share, greatest):
    """Steps whose gains, added up round a loop, are above 0 just where the loop's share is beyond the share."""
    sign = 1 if greatest else -1
    return [(event, behind, sign * (miss * share[1] - share[0])) for event, behind, miss in steps]


def fraction(number, by):
    """The fraction of two numbers, the second from 1 on, with nothing in common."""
    common, rest = by, number % by
    while rest > 0:
        common, rest = rest, common % rest
    return number // common, by // common


def best_loop(ground, greatest):
    """(share, run, loop) of a loop with the greatest share, or the least one, and a paper of it."""
    chart, steps = charted(ground, ground.first)
    # Every loop's share is beyond this one, so that a first loop is found.
    share = (-1, 1) if greatest else (2, 1)
    run = []
    loop = []
    while True:
        climb = Climb([weighed(row, share, greatest) for row in steps], [0] * len(steps))
        looped = climb.up_to_loop()
        if looped is None:
            return (share, run, loop), paper_of(chart.nodes, climb.heights, greatest)
        run = events_to(chart.ways, looped)
        loop = events_to(climb.ways, looped)
        share = fraction(passed(ground.guesser, chart.nodes[looped][1], loop)[0], len(loop))


def paper_of(spots, heights, greatest):
    """The paper of spots that have been raised, or for the least share lowered, to such heights."""
    sign = 1 if greatest else -1
    return sorted([(node, state, sign * height) for (node, state), height in zip(spots, heights)])


def greatest_share(guesser, flow):
    """(share, run, loop): the greatest share of misses of all loops, a run to such a loop, and the loop."""
    return best_loop(Ground(guesser, flow), True)[0]


def least_share(guesser, flow):
    """(share, run, loop): the least share of misses of all loops, a run to such a loop, and the loop."""
    return best_loop(Ground(guesser, flow), False)[0]


def share_paper(guesser, flow, greatest):
    """A paper that shows that no loop has a greater share than the greatest, or a lesser one than the least."""
    return best_loop(Ground(guesser, flow), greatest)[1]


def is_share_bound(guesser, flow, paper, share, greatest):
    """Whether a paper, a list of anything, shows that no loop has a greater, or lesser, share."""
    if not isinstance(paper, list) or not all(is_line(guesser, flow, line) for line in paper):
        return False
    ground = Ground(guesser, flow)
    sign = 1 if greatest else -1
    heights = {(node, state): sign * number for node, state, number in paper}
    # A share whose second number is below 1 is no fraction, and nothing can be shown of it.
    if len(heights) != len(paper) or ground.first not in heights or share[1] < 1:
        return False
    return all(is_settled(heights, spot, weighed(ground.steps_from(spot), share, greatest)) for spot in heights)


def is_line(guesser, flow, thing):
    """Whether a thing, of any kind, is a tuple of a node, a state and a whole number."""
    if not isinstance(thing, tuple) or len(thing) != 3 or not is_whole_between(thing[0], 0, len(flow) - 1):
        return False
    return is_state(guesser, thing[1]) and is_whole(thing[2])
