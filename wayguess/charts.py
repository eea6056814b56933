"""Charts of what can be come to step by step, and numbers that rise along the steps.

Steps from a node are tuples (event, node behind, gain).
"""


class Chart:
    """The nodes that are met from a first one on, by their numbers, in the order in which they are met."""

    def __init__(self, first):
        self.nodes = [first]
        self.numbers = {first: 0}
        # For each node the (number, event) by which it was first met; the first one has none.
        self.ways = [None]

    def meet(self, node, ahead, event):
        """The number of a node that is come to from the one numbered ahead; a new one where it is new."""
        if node not in self.numbers:
            self.numbers[node] = len(self.nodes)
            self.nodes.append(node)
            self.ways.append((ahead, event))
        return self.numbers[node]


def charted(ground, first):
    """The chart of all that can be come to from a first node, and for each node its steps, to numbers of nodes."""
    chart = Chart(first)
    steps = []
    while len(steps) < len(chart.nodes):
        at = len(steps)
        told = ground.steps_from(chart.nodes[at])
        steps.append([(event, chart.meet(node, at, event), gain) for event, node, gain in told])
    return chart, steps


def events_to(ways, number):
    """The events that lead to a node: from where the ways begin, or round a loop from the node itself."""
    events = []
    at = number
    while ways[at] is not None:
        at, event = ways[at]
        events.append(event)
        if at == number:
            break
    return events[::-1]


def first_in_loop(ways):
    """The least number of a loop's nodes, where the ways have a loop; else None."""
    begun = [None] * len(ways)
    for start in range(len(ways)):
        at = start
        while begun[at] is None and ways[at] is not None:
            begun[at] = start
            at = ways[at][0]
        if begun[at] == start:
            return min(round_from(ways, at))
    return None


def round_from(ways, number):
    """The numbers of the nodes of the loop in which one stands."""
    told = [number]
    while ways[told[-1]][0] != number:
        told.append(ways[told[-1]][0])
    return told


class Climb:
    """Numbers of nodes, raised along the steps as far as these ask for it; None is less than any."""

    def __init__(self, steps, heights):
        self.steps = steps
        self.heights = heights
        # For each node the (number, event) by which it was raised last.
        self.ways = [None] * len(steps)
        self.risen = [height is not None for height in heights]

    def raise_behind(self, number):
        """Raise what is behind a node as far as the node's steps ask for it."""
        self.risen[number] = False
        height = self.heights[number]
        for event, behind, gain in self.steps[number]:
            known = self.heights[behind]
            if known is None or known < height + gain:
                self.heights[behind] = height + gain
                self.ways[behind] = (number, event)
                self.risen[behind] = True

    def up_to_loop(self):
        """None once no step asks for more; or a node of a loop (of the ways) that would ask for ever more."""
        # The nodes are gone through forth and back by turns, as chains of
        # nodes that raise one another may run either way.
        order = list(range(len(self.steps)))
        while True in self.risen:
            for number in order:
                if self.risen[number]:
                    self.raise_behind(number)
            looped = first_in_loop(self.ways)
            if looped is not None:
                return looped
            order = order[::-1]
        return None


def is_settled(heights, node, steps):
    """Whether the steps from a node lead to nodes that have numbers, none of which they ask to be raised."""
    for event, behind, gain in steps:
        if behind not in heights or heights[behind] < heights[node] + gain:
            return False
    return True
