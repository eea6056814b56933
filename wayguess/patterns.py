"""Patterns gone through by a guesser, however long the runs for which they stand."""

from wayguess.guessers import first_state
from wayguess.misses import miss_and_state

# A way over more joints than these is made straight, so that the next one is short.
MOST_JOINTS = 8


def passed_pattern(guesser, state, pattern):
    """The misses of a pattern from a state on, and the state behind it."""
    walk = Walk(guesser)
    return walk.through(walk.body_of(pattern), state)


def misses_of(guesser, pattern):
    """The misses of a pattern from the first state on."""
    return passed_pattern(guesser, first_state(guesser), pattern)[0]


class Chain:
    """States ahead of passes of one body, each but the first one pass behind the one ahead of it."""

    def __init__(self, states):
        self.states = states
        # The misses from the first state up to each; once the chain has a
        # joint, also those up to the joint.
        self.summed = [0]
        # The state behind the pass from the last state, once that is known
        # to be one that already stands in a chain, this one or another.
        self.joint = None


class Body:
    """What a repeated pattern has in it, and the states from which it has been gone through."""

    def __init__(self, parts):
        self.parts = parts
        # Each state that has been met, and where it stands: (chain, at).
        self.spots = {}

    def spot_of(self, state):
        """The chain in which a state stands, and where; a new one where it stands in none."""
        if state not in self.spots:
            self.spots[state] = (Chain([state]), 0)
        return self.spots[state]

    def straighten(self, state):
        """Bring a state, and what comes behind it chain by chain, into one chain."""
        whole = Chain([])
        while state is not None:
            chain, at = self.spots[state]
            if chain == whole:
                return
            self.move_end(chain, at, whole)
            state = whole.joint

    def move_end(self, chain, at, whole):
        """Move the states of a chain from at on to the end of another one, to which the rest is joined."""
        moved = chain.states[at:]
        for spot, state in enumerate(moved, start=len(whole.states)):
            self.spots[state] = (whole, spot)
        whole.states.extend(moved)
        more = whole.summed[-1] - chain.summed[at]
        whole.summed.extend([more + misses for misses in chain.summed[at + 1:]])
        whole.joint = chain.joint
        del chain.states[at:], chain.summed[at + 1:]
        chain.joint = moved[0]


class Walk:
    """One guesser's ways through patterns; what a body does from a state is found once and kept."""

    def __init__(self, guesser):
        self.guesser = guesser
        self.bodies = {}

    def body_of(self, pattern):
        """The body of a pattern, one and the same for patterns with the same parts."""
        return self.body_with(self.parts_of(pattern))

    def body_with(self, parts):
        """The body that has these parts."""
        key = tuple(parts)
        if key not in self.bodies:
            self.bodies[key] = Body(parts)
        return self.bodies[key]

    def parts_of(self, pattern):
        """The ways of a pattern and, as ("times", number, body), what it repeats, one behind the other."""
        if pattern[0] == "way":
            return [pattern]
        if pattern[0] == "row":
            return [part for inner in pattern[1] for part in self.parts_of(inner)]
        parts = self.parts_of(pattern[2]) if pattern[1] > 0 else []
        if len(parts) == 0 or pattern[1] == 1:
            return parts
        return [("times", pattern[1], self.body_with(parts))]

    def through(self, body, state):
        """The misses of one pass of a body from a state on, and the state behind it."""
        misses = 0
        for word, number, what in body.parts:
            if word == "way":
                more, state = miss_and_state(self.guesser, state, number, what)
            else:
                more, state = self.repeated(what, state, number)
            misses += more
        return misses, state

    def repeated(self, body, state, passes):
        """The misses of so many passes of a body from a state on, and the state behind them."""
        misses = 0
        entered = {}
        chain, at = body.spot_of(state)
        self.lengthen(body, chain, at + passes)
        while at + passes >= len(chain.states):
            misses += chain.summed[-1] - chain.summed[at]
            passes -= len(chain.states) - at
            if chain.joint in entered:
                # Here again: of the passes that are left all whole loops are taken at once.
                left, before = entered[chain.joint]
                misses += passes // (left - passes) * (misses - before)
                passes %= left - passes
            entered[chain.joint] = (passes, misses)
            chain, at = body.spots[chain.joint]
            self.lengthen(body, chain, at + passes)
        told = (misses + chain.summed[at + passes] - chain.summed[at], chain.states[at + passes])
        if len(entered) > MOST_JOINTS:
            body.straighten(state)
        return told

    def lengthen(self, body, chain, at):
        """Go on from the end of a chain until it has a state at at, or a joint."""
        while chain.joint is None and len(chain.states) <= at:
            misses, state = self.through(body, chain.states[-1])
            chain.summed.append(chain.summed[-1] + misses)
            if state in body.spots:
                chain.joint = state
            else:
                body.spots[state] = (chain, len(chain.states))
                chain.states.append(state)
