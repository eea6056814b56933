"""Stage 9: flow charts [1, 22, 23, 24, 25, 26]."""

import copy
import fractions
import math
import random
import time
import unittest

from deep import deep_things
from plain import ANYTHING, KINDS, ODD, ONE, SAME, TURNING, Plain, all_from, are_wholes, drawn_flow, drawn_guesser
from wayguess.flows import greatest_share, is_flow, is_share_bound, least_share, share_paper
from wayguess.guessers import first_state, guess, learned
from wayguess.misses import passed

DOWN = ("same", 0)
BOTH = ((3, 0, 0),)
AGAIN = ((3, None, 0),)
STILL = ((3, 0, None),)
# By turns aside and straight on, and a way out of it to node 2, which has ways 1 alone.
TURNS = ((4, 2, 1), (5, 0, None), (6, None, 2))
LAST = ("table", 1, ONE)


def spots_come_to(guesser, flow, most):
    """All nodes and states that can be come to, or None where there are more than most."""
    return all_from(
        (0, first_state(guesser)), lambda spot: [behind for _, behind, _ in steps_of(guesser, flow, spot)], most
    )


def steps_of(guesser, flow, spot):
    node, state = spot
    place = flow[node][0]
    told = []
    for way in (0, 1):
        if flow[node][1 + way] is not None:
            behind = (flow[node][1 + way], learned(guesser, state, place, way))
            told.append(((place, way), behind, int(guess(guesser, state, place) != way)))
    return told


def shares_plainly(guesser, flow, spots):
    """The least and the greatest share of all loops: the misses of so many events, most and fewest (Karp's way)."""
    told = []
    for pick, sign in ((max, -1), (min, 1)):
        rows = [{spots[0]: 0}]
        for _ in range(len(spots)):
            row = {}
            for spot, misses in rows[-1].items():
                for event, behind, miss in steps_of(guesser, flow, spot):
                    row[behind] = max(row.get(behind, -math.inf), misses + sign * miss)
            rows.append(row)
        last = len(spots)
        means = []
        for spot, misses in rows[last].items():
            earlier = [(at, row[spot]) for at, row in enumerate(rows[:last]) if spot in row]
            means.append(min(fractions.Fraction(misses - before, last - at) for at, before in earlier))
        told.append(sign * max(means))
    return told[0], told[1]


def is_share_bound_plainly(guesser, flow, paper, share, greatest):
    """The checker once more, of papers whose rows are known to be (node, state, number)."""
    known = {row[:2]: row[2] for row in paper}
    if len(known) != len(paper) or (0, first_state(guesser)) not in known:
        return False
    for spot, number in known.items():
        for event, behind, miss in steps_of(guesser, flow, spot):
            more = number + miss * share[1] - share[0]
            if behind not in known:
                return False
            if known[behind] < more if greatest else known[behind] > more:
                return False
    return True


def drawn_flows(seed, many, most):
    draw = random.Random(seed)
    told = []
    while len(told) < many:
        guesser = drawn_guesser(draw, 2)
        flow = drawn_flow(draw, draw.randint(1, 6))
        spots = spots_come_to(guesser, flow, most)
        if spots is not None:
            told.append((guesser, flow, spots))
    return told


DRAWN = drawn_flows(91, 200, 60)


class IsFlow(unittest.TestCase):
    def is_one(self, thing):
        self.assertIs(is_flow(thing), True)

    def is_none(self, thing):
        self.assertIs(is_flow(thing), False)

    def test_of_1_to_24_nodes(self):
        for many in range(1, 25):
            self.is_one(tuple((at, at, many - 1) for at in range(many)))
            self.is_one(((0, None, many - 1),) * many)
        self.is_none(())
        for many in (25, 26, 100):
            self.is_none(((0, 0, 0),) * many)

    def test_none_in_the_place_of_one_of_the_two(self):
        self.is_one(((0, None, 0),))
        self.is_one(((0, 0, None),))
        self.is_one(((0, 1, None), (0, None, 0)))
        self.is_none(((0, None, None),))
        self.is_none(((0, 1, 1), (0, None, None)))
        self.is_none(((None, 0, 0),))

    def test_nodes_that_nothing_leads_to(self):
        self.is_one(((0, 0, 0), (0, 2, 1), (0, 2, 2)))

    def test_nodes_that_there_are_not(self):
        for wrong in (-1, 2, 24, 10 ** 20):
            self.is_none(((0, wrong, 0), (0, 0, 0)))
            self.is_none(((0, 0, 0), (0, 1, wrong)))
            self.is_none(((0, None, wrong), (0, 0, 0)))

    def test_places(self):
        for place in (0, 1, 999):
            self.is_one(((place, 0, 0),))
        for place in (-1, 1000, 10 ** 20):
            self.is_none(((place, 0, 0),))
            self.is_none(((0, 0, 0), (place, 0, 0)))

    def test_truths_are_no_numbers(self):
        for truth in (True, False):
            self.is_none(((truth, 0, 0),))
            self.is_none(((0, truth, 0), (0, 0, 0)))
            self.is_none(((0, 0, truth), (0, 0, 0)))
            self.is_none(((0, None, truth), (0, 0, 0)))

    def test_lists_in_the_place_of_tuples(self):
        self.is_none([(0, 0, 0)])
        self.is_none(([0, 0, 0],))
        self.is_none([[0, 0, 0]])
        self.is_none(((0, 0, 0), [0, 0, 0]))

    def test_other_lengths_and_kinds(self):
        things = (None, True, False, 0, 1, "", "0", "flow", b"", b"000", [], {}, {0: 0}, {0}, (), (0,), object())
        for thing in things + ((0, 0), (0, 0, 0), (0, 0, 0, 0), ((0, 0, 0),), ("0", "0", "0")):
            if thing != ((0, 0, 0),):
                self.is_none(thing)
            self.is_none(((0, 0, 0), thing)) if thing != (0, 0, 0) else self.is_one(((0, 0, 0), thing))
        for thing in things[3:]:
            if thing not in (0, 1):
                self.is_none(((thing, 0, 0), (0, 0, 0)))
                self.is_none(((0, thing, 0), (0, 0, 0)))
                self.is_none(((0, 0, thing), (0, 0, 0)))
                self.is_none(((0, None, thing), (0, 0, 0)))

    def test_thousands_deep(self):
        for thing in deep_things():
            self.is_none(thing)
            self.is_none((thing,))
            self.is_none(((0, 0, 0), thing))
            self.is_none(((thing, 0, 0),))
            self.is_none(((0, thing, 0),))
            self.is_none(((0, None, thing),))

    def test_what_was_handed_in_is_as_it_was(self):
        things = [[(0, 0, 0)], ([0, 0, 0],), ((0, [0], 0),)]
        was = copy.deepcopy(things)
        for thing in things:
            self.is_none(thing)
        self.assertEqual(things, was)


class Shares(unittest.TestCase):
    def is_right(self, guesser, flow, told):
        """That the run leads along the flow from node 0, and the loop from there back, with just that share."""
        share, run, loop = told
        node, state = self.along(guesser, flow, (0, first_state(guesser)), run)
        self.assertGreaterEqual(len(loop), 1)
        self.assertEqual(self.along(guesser, flow, (node, state), loop), (node, state))
        misses = passed(guesser, state, loop)[0]
        self.assertEqual(fractions.Fraction(*share), fractions.Fraction(misses, len(loop)))
        self.assertGreaterEqual(share[1], 1)
        self.assertEqual(math.gcd(*share), 1)

    def along(self, guesser, flow, spot, events):
        node, state = spot
        for place, way in events:
            self.assertEqual(place, flow[node][0])
            node = flow[node][1 + way]
            self.assertIsNotNone(node)
            state = learned(guesser, state, place, way)
        return node, state

    def shares(self, guesser, flow, least, greatest):
        told = least_share(guesser, flow)
        self.assertEqual(told[0], least)
        self.is_right(guesser, flow, told)
        told = greatest_share(guesser, flow)
        self.assertEqual(told[0], greatest)
        self.is_right(guesser, flow, told)

    def test_one_node(self):
        self.assertEqual(greatest_share(SAME, BOTH), ((1, 1), [], [(3, 0)]))
        self.assertEqual(least_share(SAME, BOTH), ((0, 1), [], [(3, 1)]))
        self.assertEqual(greatest_share(DOWN, BOTH), ((1, 1), [], [(3, 1)]))
        self.assertEqual(greatest_share(SAME, AGAIN), ((0, 1), [], [(3, 1)]))
        self.assertEqual(greatest_share(SAME, STILL), ((1, 1), [], [(3, 0)]))
        self.assertEqual(least_share(SAME, STILL), ((1, 1), [], [(3, 0)]))

    def test_a_guesser_that_learns(self):
        self.shares(LAST, BOTH, (0, 1), (1, 1))
        self.shares(LAST, AGAIN, (0, 1), (0, 1))
        self.assertEqual(greatest_share(LAST, AGAIN)[1:], ([(3, 1)], [(3, 1)]))
        self.shares(("table", 1, TURNING), AGAIN, (1, 2), (1, 2))

    def test_a_run_that_must_be_gone_first(self):
        # Node 0 is left for ever by either way; node 1 and node 2 have loops of their own.
        flow = ((0, 1, 2), (1, 1, None), (2, None, 2))
        self.assertEqual(greatest_share(SAME, flow), ((1, 1), [(0, 0)], [(1, 0)]))
        self.assertEqual(least_share(SAME, flow), ((0, 1), [(0, 1)], [(2, 1)]))

    def test_shares_between(self):
        self.shares(SAME, TURNS, (0, 1), (1, 2))
        self.shares(DOWN, TURNS, (1, 2), (1, 1))
        third = ((0, 1, 1), (1, None, 2), (2, None, 0))
        self.shares(SAME, third, (0, 1), (1, 3))
        self.shares(DOWN, third, (2, 3), (1, 1))
        ring = tuple((at, (at + 1) % 24, None) if at % 3 == 0 else (at, None, (at + 1) % 24) for at in range(24))
        self.shares(SAME, ring, (1, 3), (1, 3))
        self.shares(DOWN, ring, (2, 3), (2, 3))
        self.shares(("table", 3, ONE), ring, (0, 1), (0, 1))
        self.shares(("table", 2, ONE), ring, (2, 3), (2, 3))

    def test_of_several_loops_the_greatest_and_the_least(self):
        # Loops of 1, 2 and 3 events: the shares of ways 0 are 1/2 and 1/3 and, both together, 2/5.
        flow = ((0, 1, 2), (1, None, 0), (2, None, 3), (3, 0, None))
        self.shares(SAME, flow, (1, 3), (1, 2))
        self.shares(DOWN, flow, (1, 2), (2, 3))

    def test_nodes_that_nothing_leads_to(self):
        flow = ((0, None, 0), (1, 1, 1), (2, 0, 1))
        self.shares(SAME, flow, (0, 1), (0, 1))
        self.shares(DOWN, flow, (1, 1), (1, 1))
        self.assertEqual(share_paper(SAME, flow, True), [(0, (), 0)])

    def test_a_loop_that_comes_back_to_the_node_but_not_to_the_state(self):
        # Node 0 comes again each time, the state of the ring behind seven events only.
        ring = ((0,) * 6 + (1,),) + (tuple((at + 1) % 7 for at in range(7)),) * 2
        self.shares(("table", 1, ring), AGAIN, (6, 7), (6, 7))
        self.shares(("table", 1, ring), STILL, (1, 7), (1, 7))
        self.assertEqual(len(greatest_share(("table", 1, ring), AGAIN)[2]), 7)
        self.shares(("table", 1, ring), BOTH, (0, 1), (1, 1))

    def test_drawn_against_all_loops_plainly(self):
        shares = set()
        for guesser, flow, spots in DRAWN:
            least, greatest = shares_plainly(guesser, flow, spots)
            self.shares(guesser, flow, least.as_integer_ratio(), greatest.as_integer_ratio())
            shares.update((least, greatest))
        self.assertGreater(len(shares), 8)

    def test_misses_event_by_event(self):
        for guesser, flow, spots in DRAWN[:80]:
            for share, run, loop in (greatest_share(guesser, flow), least_share(guesser, flow)):
                plain = Plain(guesser)
                plain.along(run)
                self.assertEqual(fractions.Fraction(*share), fractions.Fraction(sum(plain.along(loop)), len(loop)))

    def test_always_the_same(self):
        for guesser, flow, spots in DRAWN[:60]:
            self.assertEqual(greatest_share(guesser, flow), greatest_share(guesser, flow))
            self.assertEqual(least_share(guesser, flow), least_share(guesser, flow))
            for greatest in (True, False):
                self.assertEqual(share_paper(guesser, flow, greatest), share_paper(guesser, flow, greatest))

    def test_the_kinds_of_what_is_told(self):
        for guesser, flow, spots in DRAWN:
            for told in (greatest_share(guesser, flow), least_share(guesser, flow)):
                self.assertEqual([type(part) for part in told], [tuple, list, list])
                self.assertIs(type(told), tuple)
                self.assertEqual(len(told[0]), 2)
                self.assertTrue(are_wholes(told[0]))
                for event in told[1] + told[2]:
                    self.assertIs(type(event), tuple)
                    self.assertTrue(are_wholes(event))

    def test_told_lists_are_new_ones(self):
        for ask in (greatest_share, least_share):
            wanted = copy.deepcopy(ask(LAST, TURNS))
            told = ask(LAST, TURNS)
            for row in told[1:]:
                row.append((0, 0))
                row.reverse()
            self.assertEqual(ask(LAST, TURNS), wanted)
            self.assertIsNot(told[1], told[2])
        for greatest in (True, False):
            wanted = copy.deepcopy(share_paper(LAST, TURNS, greatest))
            share_paper(LAST, TURNS, greatest).clear()
            self.assertEqual(share_paper(LAST, TURNS, greatest), wanted)

    def test_what_was_handed_in_is_as_it_was(self):
        for guesser in KINDS[:6]:
            handed = (guesser, TURNS)
            was = copy.deepcopy(handed)
            greatest_share(*handed)
            least_share(*handed)
            share_paper(*handed, True)
            self.assertEqual(handed, was)


class Papers(unittest.TestCase):
    def test_all_nodes_and_states_that_can_be_come_to_each_once(self):
        for guesser, flow, spots in DRAWN:
            for greatest in (True, False):
                paper = share_paper(guesser, flow, greatest)
                self.assertIs(type(paper), list)
                self.assertEqual(sorted(row[:2] for row in paper), sorted(spots))
                for row in paper:
                    self.assertIs(type(row), tuple)
                    self.assertEqual(len(row), 3)
                    self.assertTrue(are_wholes(row))

    def test_let_by_with_their_share_and_no_lesser_one(self):
        for guesser, flow, spots in DRAWN:
            for greatest, ask in ((True, greatest_share), (False, least_share)):
                share = ask(guesser, flow)[0]
                paper = share_paper(guesser, flow, greatest)
                self.assertTrue(is_share_bound_plainly(guesser, flow, paper, share, greatest))
                self.assertIs(is_share_bound(guesser, flow, paper, share, greatest), True)
                for other in ((0, 1), (1, 1), (1, 2), (1, 3), (2, 3), (3, 7), (-1, 1), (2, 1), (499, 1000)):
                    beyond = fractions.Fraction(*share) - fractions.Fraction(*other)
                    if (beyond > 0) if greatest else (beyond < 0):
                        self.assertIs(is_share_bound(guesser, flow, paper, other, greatest), False)

    def test_no_paper_shows_a_lesser_share_than_the_greatest(self):
        draw = random.Random(92)
        for guesser, flow, spots in DRAWN[:60]:
            share = fractions.Fraction(*greatest_share(guesser, flow)[0]) - fractions.Fraction(1, 50)
            for _ in range(5):
                paper = [spot + (draw.randint(-100, 100),) for spot in spots]
                self.assertIs(is_share_bound(guesser, flow, paper, share.as_integer_ratio(), True), False)


PAPER = share_paper(LAST, TURNS, True)
SHARE = greatest_share(LAST, TURNS)[0]
LOW_PAPER = share_paper(LAST, TURNS, False)
LOW_SHARE = least_share(LAST, TURNS)[0]


class IsShareBound(unittest.TestCase):
    def lets_by(self, paper, share=SHARE, greatest=True, guesser=LAST, flow=TURNS):
        self.assertIs(is_share_bound(guesser, flow, paper, share, greatest), True)

    def refuses(self, paper, share=SHARE, greatest=True, guesser=LAST, flow=TURNS):
        self.assertIs(is_share_bound(guesser, flow, paper, share, greatest), False)

    def test_what_is_tried_here(self):
        self.assertEqual((SHARE, LOW_SHARE), ((1, 1), (0, 1)))
        self.assertEqual(len(PAPER), 4)
        self.lets_by(PAPER)
        self.lets_by(LOW_PAPER, LOW_SHARE, False)

    def test_written_out(self):
        # Node 0 and node 1 by turns, a miss and none: half of all.
        flow = ((0, None, 1), (1, 0, None))
        self.lets_by([(0, (), 0), (1, (), -1)], (1, 2), True, SAME, flow)
        self.lets_by([(0, (), 5), (1, (), 4)], (1, 2), True, SAME, flow)
        self.lets_by([(0, (), 0), (1, (), -1)], (1, 2), False, SAME, flow)
        self.refuses([(0, (), 0), (1, (), 0)], (1, 2), True, SAME, flow)
        self.refuses([(0, (), 0), (1, (), 0)], (1, 2), False, SAME, flow)
        self.refuses([(0, (), 0), (1, (), -2)], (1, 2), True, SAME, flow)
        self.refuses([(0, (), 0), (1, (), -2)], (1, 2), False, SAME, flow)
        # Of a greater share there is room: an event without a miss asks for 2 less, one with a miss for 1 more.
        self.lets_by([(0, (), 0), (1, (), -2)], (2, 3), True, SAME, flow)
        self.lets_by([(0, (), 0), (1, (), -1)], (2, 3), True, SAME, flow)
        self.refuses([(0, (), 0), (1, (), 0)], (2, 3), True, SAME, flow)
        self.refuses([(0, (), 0), (1, (), -1)], (2, 3), False, SAME, flow)
        self.lets_by([(0, (), 0), (1, (), -1)], (1, 3), False, SAME, flow)
        self.lets_by([(0, (), 0), (1, (), -2)], (1, 3), False, SAME, flow)
        self.refuses([(0, (), 0), (1, (), -1)], (1, 3), True, SAME, flow)
        self.refuses([(0, (), 0), (1, (), -3)], (1, 3), False, SAME, flow)
        self.refuses([(0, (), 0), (1, (), 0)], (1, 3), False, SAME, flow)

    def test_greatest_and_least_are_not_mixed_up(self):
        self.lets_by([(0, (), 0)], (1, 1), True, SAME, BOTH)
        self.lets_by([(0, (), 0)], (0, 1), False, SAME, BOTH)
        self.refuses([(0, (), 0)], (1, 1), False, SAME, BOTH)
        self.refuses([(0, (), 0)], (0, 1), True, SAME, BOTH)

    def test_in_any_order_and_raised_alike(self):
        self.lets_by(PAPER[::-1])
        for more in (1, -1, 10 ** 30):
            self.lets_by([row[:2] + (row[2] + more,) for row in PAPER])
            self.lets_by([row[:2] + (row[2] + more,) for row in LOW_PAPER], LOW_SHARE, False)

    def test_a_row_left_out(self):
        for at in range(len(PAPER)):
            self.refuses(PAPER[:at] + PAPER[at + 1:])
            self.refuses(LOW_PAPER[:at] + LOW_PAPER[at + 1:], LOW_SHARE, False)
        self.refuses([])
        self.refuses([], (0, 1), False)

    def test_a_row_twice(self):
        for row in PAPER:
            self.refuses(PAPER + [row])
            self.refuses(PAPER + [row[:2] + (row[2] + 1,)])

    def test_numbers_changed(self):
        refused = 0
        for paper, share, greatest in ((PAPER, SHARE, True), (LOW_PAPER, LOW_SHARE, False)):
            for at, row in enumerate(paper):
                for more in (-9, -2, -1, 1, 2, 9):
                    changed = paper[:at] + [row[:2] + (row[2] + more,)] + paper[at + 1:]
                    wanted = is_share_bound_plainly(LAST, TURNS, changed, share, greatest)
                    self.assertIs(is_share_bound(LAST, TURNS, changed, share, greatest), wanted)
                    refused += not wanted
        self.assertGreater(refused, 20)

    def test_drawn_changes_against_the_checker_written_once_more(self):
        draw = random.Random(93)
        told = {True: 0, False: 0}
        for guesser, flow, spots in DRAWN:
            for greatest, ask in ((True, greatest_share), (False, least_share)):
                share = ask(guesser, flow)[0]
                paper = share_paper(guesser, flow, greatest)
                at = draw.randrange(len(paper))
                paper[at] = paper[at][:2] + (paper[at][2] + draw.choice((-2, -1, 0, 1, 2)),)
                if draw.randrange(6) == 0:
                    share = (share[0] + draw.choice((-1, 1)), share[1])
                wanted = is_share_bound_plainly(guesser, flow, paper, share, greatest)
                self.assertIs(is_share_bound(guesser, flow, paper, share, greatest), wanted)
                told[wanted] += 1
        self.assertGreater(min(told.values()), 50)

    def test_rows_of_another_kind_or_length(self):
        for at, row in enumerate(PAPER):
            others = (list(row), row[:2], row + (0,), (row,), (), None, 0, True, "row", {1: 2}, row[1:] + row[:1])
            for other in others:
                self.refuses(PAPER[:at] + [other] + PAPER[at + 1:])
                self.refuses(PAPER + [other])

    def test_nodes_of_another_kind(self):
        for node in (-1, 3, 24, 10 ** 20, None, True, False, "0", (0,), [0], ()):
            self.refuses(PAPER + [(node, (0,), -99)])
            self.refuses([(node,) + PAPER[0][1:]] + PAPER[1:])

    def test_states_of_another_kind(self):
        for state in ((2,), (-1,), (True,), (False,), [0], 0, (), (0, 0), ((0,),), None, "0", ([0],), (None,)):
            self.refuses(PAPER + [(0, state, -99)])
            self.refuses([(0, state, PAPER[0][2])] + PAPER[1:])

    def test_numbers_of_another_kind(self):
        for number in (None, True, False, "1", (1,), [1], (), b"1"):
            for at, row in enumerate(PAPER):
                self.refuses(PAPER[:at] + [row[:2] + (number,)] + PAPER[at + 1:])

    def test_rows_of_further_nodes_and_states(self):
        # Node 1 can't be come to: its row may stand there if the same holds of it.
        flow = ((0, None, 0), (1, 0, 1))
        self.lets_by([(0, (), 0)], (0, 1), True, SAME, flow)
        self.refuses([(0, (), 0), (1, (), 0)], (0, 1), True, SAME, flow)
        self.lets_by([(0, (), 0), (1, (), -1)], (0, 1), True, SAME, flow)
        self.lets_by([(0, (), 0), (1, (), -7)], (0, 1), True, SAME, flow)

    def test_the_first_ones_among_them(self):
        # All that is asked of the other rows holds, but node 0 and the first state are not there.
        flow = ((0, 1, 1), (1, None, 1))
        self.refuses([(1, (), 0)], (0, 1), True, SAME, flow)
        self.lets_by([(1, (), 0), (0, (), -1)], (0, 1), True, SAME, flow)
        self.refuses([(0, (1,), 0)], (0, 1), True, LAST, AGAIN)
        self.lets_by([(0, (1,), 0), (0, (0,), -1)], (0, 1), True, LAST, AGAIN)

    def test_ways_that_are_not_taken_are_not_asked_for(self):
        self.lets_by([(0, (), 0)], (0, 1), True, SAME, AGAIN)
        self.refuses([(0, (), 0)], (0, 1), True, SAME, BOTH)
        self.lets_by([(0, (), 0)], (1, 1), False, SAME, STILL)

    def test_what_is_no_list(self):
        for paper in (tuple(PAPER), None, (), 0, "paper", {}, {PAPER[0]: 0}):
            self.refuses(paper)

    def test_anything_in_the_list(self):
        for thing in ANYTHING:
            self.refuses([thing])
            self.refuses(PAPER + [thing])
            self.refuses([thing] + PAPER)
            self.refuses(PAPER + [(thing, thing, thing)])

    def test_thousands_deep(self):
        for thing in deep_things():
            self.refuses([thing])
            self.refuses(PAPER + [thing])
            self.refuses(PAPER + [(thing, (0,), 0)])
            self.refuses(PAPER + [(0, thing, 0)])
            self.refuses(PAPER + [(0, (thing,), 0)])
            self.refuses(PAPER + [(0, (0,), thing)])

    def test_what_was_handed_in_stays(self):
        paper = PAPER + [[1, [2]], (None, [3])]
        was = copy.deepcopy(paper)
        self.refuses(paper)
        self.assertEqual(paper, was)
        paper = list(PAPER)
        self.lets_by(paper)
        self.assertEqual(paper, PAPER)
        paper.clear()
        self.lets_by(PAPER)


class Many(unittest.TestCase):
    def within_a_short_time(self, guesser, flow, many):
        begun = time.process_time()
        for greatest, ask in ((True, greatest_share), (False, least_share)):
            share = ask(guesser, flow)[0]
            paper = share_paper(guesser, flow, greatest)
            self.assertEqual(len(paper), many)
            self.assertIs(is_share_bound(guesser, flow, paper, share, greatest), True)
        self.assertLess(time.process_time() - begun, 30)

    def test_some_3000_nodes_and_states(self):
        flow = tuple((at, (at + 1) % 24, (at * 7 + 3) % 24) for at in range(24))
        self.within_a_short_time(("mixed", 3, 1, ODD), flow, 1080)
        self.within_a_short_time(("mixed", 4, 1, ODD), flow, 3492)

    def test_loops_that_are_long(self):
        one = ("mixed", 2, 0, ((1, 0, 1), (1, 0, 0), (2, 1, 1)))
        other = ("mixed", 5, 0, ((1, 1, 1, 1), (1, 0, 3, 1), (2, 1, 3, 0)))
        chooser = ("either", one, other, 3, ((1, 0, 1, 0), (3, 1, 0, 2), (3, 0, 0, 0)))
        flow = ((768, 1, None), (653, None, 3), (379, 3, 4), (784, 4, 2), (743, 0, 2))
        self.within_a_short_time(chooser, flow, 2763)
        self.assertEqual(least_share(chooser, flow)[0], (2, 39))

    def test_long_rings(self):
        # Rings of 8, 7, 5 and 3 states: the states come round behind 840 events and no sooner.
        rings = []
        for many in (8, 7, 5, 3):
            behind = tuple((at + 1) % many for at in range(many))
            rings.append(("table", 1, (tuple(at % 2 for at in range(many)), behind, behind)))
        one = ("either", rings[0], rings[1], 1, TURNING)
        ring = ("either", one, ("either", rings[2], rings[3], 1, TURNING), 1, TURNING)
        self.within_a_short_time(ring, AGAIN, 840)
        self.assertEqual(len(greatest_share(ring, AGAIN)[2]), 840)
        self.within_a_short_time(ring, ((0, 1, None), (1, None, 2), (2, 2, 0)), 2520)


class Beyond(unittest.TestCase):
    """The interface: somewhat beyond a limit no error is raised."""

    def test_no_error(self):
        flow = tuple((at + 990, (at + 1) % 30, None) for at in range(30))
        self.assertIs(is_flow(flow), False)
        self.assertEqual(greatest_share(SAME, flow)[0], (1, 1))
        self.assertIs(is_share_bound(SAME, flow, share_paper(SAME, flow, True), (1, 1), True), True)
        self.assertIs(is_share_bound(SAME, AGAIN, [(0, (), 0)], (3, 1), True), True)
        self.assertIs(is_share_bound(SAME, AGAIN, [(0, (), 0)], (0, 2), True), True)

    def test_what_is_no_fraction_shows_nothing(self):
        for share in ((1, 0), (0, 0), (-1, -1), (1, -1)):
            for greatest in (True, False):
                self.assertIs(is_share_bound(SAME, AGAIN, [(0, (), 0)], share, greatest), False)


if __name__ == "__main__":
    unittest.main()
