"""Whether two guessers guess alike."""

from wayguess.charts import Chart, events_to
from wayguess.pairs import Pairs


def parting_run(one, other, places):
    """(run, place): the shortest run behind which two guessers don't guess alike, and where; None if there is none."""
    pairs = Pairs(one, other, places)
    chart = Chart(pairs.first)
    place = pairs.parting_place(pairs.first)
    at = 0
    while place is None and at < len(chart.nodes):
        place = parting_place_behind(pairs, chart, at)
        at += 1
    if place is None:
        return None
    return events_to(chart.ways, len(chart.nodes) - 1), place


def parting_place_behind(pairs, chart, at):
    """Put the pairs one event behind a pair on the chart, up to the first at which there is a parting place: told."""
    # Each pair is looked at when it is met, not when it is gone on from, so
    # that no pair behind longer runs than the told one is asked for.
    for event, pair, gain in pairs.steps_from(chart.nodes[at]):
        if pair not in chart.numbers:
            chart.meet(pair, at, event)
            place = pairs.parting_place(pair)
            if place is not None:
                return place
    return None
