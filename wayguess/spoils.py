"""What places spoil for each other where they share a cell of a table."""

from wayguess.best import cell_misses
from wayguess.guessers import first_state, size_of
from wayguess.misses import passed


def ways_by_places(run):
    """For each place of a run its ways, each behind the number of its event."""
    told = {}
    for at, (place, way) in enumerate(run):
        told.setdefault(place, []).append((at, way))
    return told


def misses_together(guesser, events):
    """The misses of one cell of a table guesser in numbered ways, in the order of their numbers."""
    return cell_misses(guesser[2], [way for at, way in sorted(events)])


def spoiled(guesser, run):
    """For each two places that have one cell (place, other, number): the misses by being together, where not 0."""
    events = ways_by_places(run)
    alone = {place: misses_together(guesser, events[place]) for place in events}
    size = size_of(guesser)
    places = sorted(events)
    told = []
    for at, place in enumerate(places):
        for other in places[at + 1:]:
            if place % size == other % size:
                number = misses_together(guesser, events[place] + events[other]) - alone[place] - alone[other]
                if number != 0:
                    told.append((place, other, number))
    return told


def lost_by_sharing(guesser, run):
    """The misses of a table guesser in a run less those of each place alone."""
    events = ways_by_places(run)
    alone = sum(misses_together(guesser, events[place]) for place in events)
    return passed(guesser, first_state(guesser), run)[0] - alone
