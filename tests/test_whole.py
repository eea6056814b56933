"""The whole: what one module tells against what another tells [2]."""

import fractions
import random
import unittest

from plain import (
    KINDS, drawn_flow, drawn_guesser, drawn_pairs, drawn_pattern, drawn_places, drawn_run, pairs_come_to, written_out,
)
from wayguess.against import ahead_by, is_bound
from wayguess.alike import parting_run
from wayguess.best import best_cell, cell_misses
from wayguess.desk import Desk
from wayguess.flows import Ground, greatest_share, is_flow, is_share_bound, least_share, share_paper
from wayguess.guessers import first_state, guess, is_guesser, learned
from wayguess.misses import by_places, missed, passed
from wayguess.notes import read_guesser, read_pattern, show_guesser, show_pattern
from wayguess.patterns import misses_of, passed_pattern
from wayguess.rounds import for_ever, is_round, misses_behind
from wayguess.runs import is_pattern, many_events, run_of
from wayguess.spoils import lost_by_sharing, spoiled

MOST = 10 ** 18


def drawn_of(seed, many):
    draw = random.Random(seed)
    for _ in range(many):
        yield draw, draw.choice(KINDS) if draw.randrange(4) == 0 else drawn_guesser(draw)


def as_pattern(run):
    return ("row", tuple(("way", place, way) for place, way in run))


class Misses(unittest.TestCase):
    def test_by_patterns_as_by_runs(self):
        tried = 0
        for draw, guesser in drawn_of(141, 300):
            pattern = drawn_pattern(draw, 6, 5)
            if many_events(pattern) > 400:
                continue
            tried += 1
            run = run_of(pattern)
            self.assertEqual(run, written_out(pattern))
            self.assertEqual(misses_of(guesser, pattern), sum(missed(guesser, run)))
            self.assertEqual(misses_of(guesser, pattern), sum(row[2] for row in by_places(guesser, run)))
            state = passed(guesser, first_state(guesser), drawn_run(draw, 9))[1]
            self.assertEqual(passed_pattern(guesser, state, pattern), passed(guesser, state, run))
        self.assertGreater(tried, 200)

    def test_for_ever_as_behind_so_many_passes(self):
        for draw, guesser in drawn_of(142, 150):
            ahead, around = drawn_pattern(draw, 9, 3), drawn_pattern(draw, 9, 3)
            passes, length, misses, more = for_ever(guesser, ahead, around)
            self.assertEqual(misses_behind(guesser, ahead, around, passes), misses)
            self.assertEqual(misses_behind(guesser, ahead, around, passes + length), misses + more)
            loops = (MOST - passes) // length
            self.assertEqual(misses_behind(guesser, ahead, around, passes + loops * length), misses + loops * more)
            whole = ("row", (ahead, ("times", passes, around)))
            state = passed_pattern(guesser, first_state(guesser), whole)[1]
            self.assertIs(is_round(guesser, ahead, around, (passes, length, misses, more), state), True)
            self.assertEqual(passed_pattern(guesser, state, ("times", length, around)), (more, state))

    def test_event_by_event(self):
        for draw, guesser in drawn_of(143, 60):
            state = first_state(guesser)
            run = drawn_run(draw, 40)
            told = []
            for place, way in run:
                told.append(int(guess(guesser, state, place) != way))
                state = learned(guesser, state, place, way)
            self.assertEqual(missed(guesser, run), told)
            self.assertEqual(passed(guesser, first_state(guesser), run), (sum(told), state))


class TwoGuessers(unittest.TestCase):
    DRAWN = drawn_pairs(144, 150, 150)

    def test_alike_just_where_none_is_ahead_of_the_other(self):
        alike = 0
        for one, other, places, pairs in self.DRAWN:
            none = parting_run(one, other, places) is None
            for told in (ahead_by(one, other, places), ahead_by(other, one, places)):
                self.assertIs(told[:2] == ("at most", 0), none)
            alike += none
        self.assertGreater(alike, 10)
        self.assertLess(alike, 140)

    def test_behind_the_parting_run_one_of_them_misses_alone(self):
        for one, other, places, pairs in self.DRAWN:
            told = parting_run(one, other, places)
            if told is not None:
                run, place = told
                self.assertEqual(missed(one, run), missed(other, run))
                for way in (0, 1):
                    longer = run + [(place, way)]
                    self.assertEqual(missed(one, longer)[-1] + missed(other, longer)[-1], 1)

    def test_no_drawn_run_is_beyond_the_bound(self):
        draw = random.Random(145)
        for one, other, places, pairs in self.DRAWN:
            told = ahead_by(one, other, places)
            if told[0] == "at most":
                self.assertEqual(sum(missed(one, told[2])) - sum(missed(other, told[2])), told[1])
                self.assertIs(is_bound(one, other, places, told[3], told[1]), True)
                for _ in range(20):
                    run = [(draw.choice(places), draw.randrange(2)) for _ in range(draw.randint(0, 30))]
                    self.assertLessEqual(sum(missed(one, run)) - sum(missed(other, run)), told[1])

    def test_the_loop_of_ever_more_for_ever(self):
        for one, other, places, pairs in self.DRAWN:
            told = ahead_by(one, other, places)
            if told[0] == "ever more":
                ahead, around = as_pattern(told[1]), as_pattern(told[2])
                mine, its = for_ever(one, ahead, around), for_ever(other, ahead, around)
                self.assertEqual((mine[:2], its[:2]), ((0, 1), (0, 1)))
                self.assertGreater(mine[3], its[3])
                far = [misses_behind(guesser, ahead, around, MOST) for guesser in (one, other)]
                self.assertGreater(far[0] - far[1], MOST - 1000)


class Flows(unittest.TestCase):
    def drawn(self):
        draw = random.Random(146)
        told = []
        while len(told) < 100:
            guesser, flow = drawn_guesser(draw, 2), drawn_flow(draw, draw.randint(1, 7))
            self.assertIs(is_flow(flow), True)
            places = [node[0] for node in flow]
            if pairs_come_to(guesser, ("same", 0), places, 300) is not None:
                told.append((guesser, flow))
        return told

    def test_the_told_loops_for_ever(self):
        for guesser, flow in self.drawn():
            for share, run, loop in (greatest_share(guesser, flow), least_share(guesser, flow)):
                told = for_ever(guesser, as_pattern(run), as_pattern(loop))
                # The loop comes back to the state with which it is begun, at once.
                self.assertEqual(told[:2], (0, 1))
                self.assertEqual(told[2], sum(missed(guesser, run)))
                self.assertEqual(fractions.Fraction(told[3], len(loop)), fractions.Fraction(*share))

    def test_no_way_along_the_flow_is_beyond_the_shares_for_long(self):
        draw = random.Random(147)
        for guesser, flow in self.drawn():
            ground = Ground(guesser, flow)
            spot = ground.first
            misses = 0
            for _ in range(200):
                event, spot, miss = draw.choice(ground.steps_from(spot))
                misses += miss
            for greatest, ask in ((True, greatest_share), (False, least_share)):
                share = ask(guesser, flow)[0]
                paper = share_paper(guesser, flow, greatest)
                self.assertIs(is_share_bound(guesser, flow, paper, share, greatest), True)
                # Each event's miss, less the share, is at most what the paper's number rises by.
                numbers = [row[2] for row in paper]
                beyond = misses * share[1] - 200 * share[0]
                self.assertLessEqual(beyond if greatest else -beyond, max(numbers) - min(numbers))

    def test_a_flow_of_all_ways_at_one_place_as_all_runs_there(self):
        draw = random.Random(148)
        for _ in range(60):
            guesser = drawn_guesser(draw, 2)
            flow = ((draw.randint(0, 12), 0, 0),)
            place = flow[0][0]
            if pairs_come_to(guesser, ("same", 0), [place], 300) is None:
                continue
            # Somebody who goes aside just where the guesser doesn't guess it makes it miss all the time.
            self.assertEqual(greatest_share(guesser, flow)[0], (1, 1))
            self.assertEqual(least_share(guesser, flow)[0], (0, 1))


class CellsAndPlaces(unittest.TestCase):
    def test_a_cell_s_misses_as_a_table_s(self):
        draw = random.Random(149)
        for _ in range(60):
            ways = [draw.randrange(2) for _ in range(draw.randint(0, 60))]
            misses, cell = best_cell(ways, 3)
            run = [(7, way) for way in ways]
            self.assertEqual(cell_misses(cell, ways), misses)
            self.assertEqual(sum(missed(("table", 1, cell), run)), misses)
            self.assertEqual(misses_of(("table", 16, cell), as_pattern(run)), misses)
            self.assertIs(is_guesser(("table", 1, cell)), True)

    def test_what_is_lost_by_sharing_is_what_a_table_of_more_cells_saves(self):
        draw = random.Random(150)
        for _ in range(60):
            ways = [draw.randrange(2) for _ in range(9)]
            cell = best_cell(ways, 3)[1]
            run = drawn_run(draw, 60, 15)
            saved = sum(missed(("table", 1, cell), run)) - sum(missed(("table", 16, cell), run))
            self.assertEqual(lost_by_sharing(("table", 1, cell), run), saved)
            self.assertEqual(lost_by_sharing(("table", 16, cell), run), 0)
            self.assertEqual(spoiled(("table", 16, cell), run), [])


class Texts(unittest.TestCase):
    def test_the_desk_as_the_functions(self):
        desk = Desk()
        for draw, guesser in drawn_of(151, 80):
            text = show_guesser(guesser)
            plain = read_guesser(text)
            self.assertEqual(desk.say(f"guesser some {text}"), "ok")
            ahead, around = drawn_pattern(draw, MOST, 3), drawn_pattern(draw, 9, 3)
            texts = show_pattern(ahead), show_pattern(around)
            self.assertEqual((read_pattern(texts[0]), read_pattern(texts[1])), (ahead, around))
            self.assertIs(is_pattern(ahead), True)
            # Cells in their plain forms guess as they do in any other.
            self.assertEqual(desk.say(f"misses some {texts[0]}"), str(misses_of(guesser, ahead)))
            told = [int(number) for number in desk.say(f"round some {texts[0]} {texts[1]}").split(" ")]
            self.assertEqual(told[2], misses_behind(guesser, ahead, around, told[0]))
            self.assertEqual(tuple(told), for_ever(plain, ahead, around))
            self.assertEqual(desk.say(f"learn some {texts[0]}"), str(misses_of(plain, ahead)))
            state = passed_pattern(guesser, first_state(guesser), ahead)[1]
            self.assertEqual(desk.say("guess some 5"), str(guess(guesser, state, 5)))

    def test_the_desk_s_two_guessers_as_the_functions(self):
        desk = Desk()
        for one, other, places, pairs in TwoGuessers.DRAWN:
            desk.say(f"guesser one {show_guesser(one)}")
            desk.say(f"guesser other {show_guesser(other)}")
            row = " ".join(str(place) for place in places)
            told = ahead_by(one, other, places)
            wanted = f"at most {told[1]}" if told[0] == "at most" else "ever more"
            self.assertEqual(desk.say(f"against one other {row}"), wanted)
            alike = desk.say(f"alike one other {row}")
            self.assertIs(alike == "yes", parting_run(one, other, places) is None)
            if alike != "yes":
                words = alike.split(" ")
                run = [read_pattern(word)[1:] for word in words[:-2]]
                self.assertEqual((run, int(words[-1])), parting_run(one, other, places))
                self.assertEqual(words[-2], "at")

    def test_a_guesser_and_its_text_s_guesser_are_alike(self):
        draw = random.Random(152)
        tried = 0
        while tried < 60:
            guesser = drawn_guesser(draw, 2)
            places = drawn_places(draw, 3)
            if pairs_come_to(guesser, guesser, places, 200) is not None:
                self.assertIsNone(parting_run(guesser, read_guesser(show_guesser(guesser)), places))
                tried += 1


if __name__ == "__main__":
    unittest.main()
