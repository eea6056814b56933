"""Stage 1: runs, patterns [1, 3]."""

import copy
import unittest

from deep import deep_list, deep_things, deep_tuple
from wayguess.errors import GuessError, NoRun
from wayguess.runs import is_pattern, many_events, run_of

WAY = ("way", 5, 1)
NOTHING = ("row", ())
MOST = 10 ** 18


def in_rows(many, inmost):
    """The pattern with so many rows around it."""
    for _ in range(many):
        inmost = ("row", (inmost,))
    return inmost


def in_times(many, inmost, number=1):
    for _ in range(many):
        inmost = ("times", number, inmost)
    return inmost


def in_turns(many, inmost):
    for at in range(many):
        inmost = ("row", (inmost,)) if at % 2 else ("times", 2, inmost)
    return inmost


def row(*patterns):
    return ("row", patterns)


def times(number, pattern):
    return ("times", number, pattern)


class IsPattern(unittest.TestCase):
    def is_one(self, thing):
        self.assertIs(is_pattern(thing), True)

    def is_none(self, thing):
        self.assertIs(is_pattern(thing), False)

    def test_ways(self):
        for place in (0, 1, 12, 998, 999):
            for way in (0, 1):
                self.is_one(("way", place, way))

    def test_places_beyond(self):
        for place in (-1, 1000, 1001, 10 ** 18, -(10 ** 18)):
            self.is_none(("way", place, 0))
            self.is_none(("way", place, 1))

    def test_ways_beyond(self):
        for way in (2, -1, 3, 999):
            self.is_none(("way", 0, way))

    def test_rows(self):
        self.is_one(NOTHING)
        self.is_one(row(WAY))
        self.is_one(row(WAY, NOTHING, times(3, WAY), WAY))
        self.is_one(row(NOTHING, NOTHING))

    def test_a_row_with_one_wrong_part(self):
        for wrong in (("way", 1000, 0), None, (), "way", ("row", [])):
            self.is_none(row(wrong))
            self.is_none(row(wrong, WAY, WAY))
            self.is_none(row(WAY, wrong, WAY))
            self.is_none(row(WAY, WAY, wrong))

    def test_times(self):
        for number in (0, 1, 2, MOST - 1, MOST):
            self.is_one(times(number, WAY))
            self.is_one(times(number, NOTHING))

    def test_numbers_beyond(self):
        for number in (-1, MOST + 1, 10 ** 19, -(10 ** 18)):
            self.is_none(times(number, WAY))
            self.is_none(times(number, NOTHING))

    def test_what_comes_0_times_is_a_pattern_too(self):
        self.is_none(times(0, ("way", 1000, 0)))
        self.is_none(times(0, None))
        self.is_none(times(0, ()))

    def test_truths_are_no_numbers(self):
        for truth in (True, False):
            self.is_none(("way", truth, 0))
            self.is_none(("way", 0, truth))
            self.is_none(times(truth, WAY))
            self.is_none(("row", truth))
            self.is_none((truth, 0, 0))
            self.is_none(row(WAY, ("way", truth, 1)))
            self.is_none(truth)

    def test_twenty_within_one_another(self):
        for within in (in_rows, in_times, in_turns):
            with self.subTest(within.__name__):
                self.is_one(within(18, WAY))
                self.is_one(within(19, WAY))
                self.is_none(within(20, WAY))
                self.is_none(within(21, WAY))

    def test_a_row_of_none_is_one_by_itself(self):
        for within in (in_rows, in_times, in_turns):
            with self.subTest(within.__name__):
                self.is_one(within(19, NOTHING))
                self.is_none(within(20, NOTHING))

    def test_0_times_is_one_more_too(self):
        self.is_one(in_times(19, WAY, 0))
        self.is_none(in_times(20, WAY, 0))
        self.is_one(times(0, in_rows(18, WAY)))
        self.is_none(times(0, in_rows(19, WAY)))

    def test_the_deepest_part_first_last_or_between(self):
        for within in (in_rows, in_times, in_turns):
            just = within(18, WAY)
            over = within(19, WAY)
            with self.subTest(within.__name__):
                self.is_one(row(just, WAY, WAY))
                self.is_one(row(WAY, WAY, just))
                self.is_one(row(WAY, just, WAY))
                self.is_one(row(just, just))
                self.is_none(row(over, WAY, WAY))
                self.is_none(row(WAY, WAY, over))
                self.is_none(row(WAY, over, WAY))

    def test_parts_beside_one_another_add_no_depth(self):
        self.is_one(row(*[in_rows(18, WAY)] * 30))

    def test_wrong_words(self):
        for word in ("", "Way", "ways", "way ", "rows", "time", "TIMES", "same", b"way", None, 0, 1, (), ("way",), []):
            self.is_none((word, 0, 0))
            self.is_none((word, ()))
            self.is_none((word, 1, WAY))
            self.is_none((word,))

    def test_a_thing_that_is_equal_to_every_word_is_none(self):
        class Alike:
            def __eq__(self, other):
                return True

        self.is_none((Alike(), 0, 0))
        self.is_none((Alike(), ()))

    def test_words_of_the_other_forms(self):
        self.is_none(("way", ()))
        self.is_none(("row", 0, 0))
        self.is_none(("times", 0, 0))
        self.is_none(("times", WAY, 3))
        self.is_none(("way", 1, WAY))
        self.is_none(("row", 1, WAY))

    def test_wrong_lengths(self):
        self.is_none(())
        for word in ("way", "row", "times"):
            self.is_none((word,))
        self.is_none(("way", 0))
        self.is_none(("way", 0, 0, 0))
        self.is_none(("row", (), ()))
        self.is_none(("row", (WAY,), WAY))
        self.is_none(("times", 2))
        self.is_none(("times", 2, WAY, WAY))

    def test_lists_in_the_place_of_tuples(self):
        self.is_none(["way", 0, 0])
        self.is_none(["row", ()])
        self.is_none(["times", 2, WAY])
        self.is_none(("row", []))
        self.is_none(("row", [WAY]))
        self.is_none(("row", (["way", 0, 0],)))
        self.is_none(("times", 2, ["way", 0, 0]))

    def test_other_kinds(self):
        for thing in (None, 0, 1, -1, 10 ** 30, "", "way", "row", "5+", b"", b"way", [], {}, {"way": 1}, {1}, object()):
            self.is_none(thing)
            self.is_none((thing,))
            self.is_none(("row", thing))
            self.is_none(("row", (thing,)))
            self.is_none(("times", 2, thing))

    def test_other_kinds_in_the_place_of_numbers(self):
        for thing in (None, "", "0", "1", b"1", [], [1], (), (1,), {}, {1: 1}, object()):
            self.is_none(("way", thing, 0))
            self.is_none(("way", 0, thing))
            self.is_none(("times", thing, WAY))

    def test_a_row_is_not_its_only_part(self):
        self.is_none(("row", WAY))
        self.is_none(("row", "way"))

    def test_many_parts(self):
        for many in (399, 400, 401, 900, 5000):
            self.is_one(("row", (WAY,) * many))
            self.is_none(("row", (WAY,) * many + (("way", 0, 2),)))
        self.is_one(row(*[times(3, row(WAY, NOTHING))] * 700))
        self.is_one(row(*[row(*[WAY] * 30)] * 30))
        self.is_none(row(*[row(*[WAY] * 30)] * 30, row(WAY, ("way", True, 0))))

    def test_thousands_deep(self):
        for thing in deep_things():
            self.is_none(thing)
            self.is_none((thing, 0, 0))
            self.is_none((thing, thing))
            self.is_none(("way", thing, 0))
            self.is_none(("way", 0, thing))
            self.is_none(("row", thing))
            self.is_none(("row", (thing,)))
            self.is_none(("row", (WAY, thing)))
            self.is_none(("times", thing, WAY))
            self.is_none(("times", 0, thing))
            self.is_none(in_rows(19, thing))

    def test_thousands_deep_within_a_pattern_that_is_deep_enough_itself(self):
        self.is_none(in_rows(18, ("row", (deep_list(),))))
        self.is_none(in_times(18, ("row", (deep_tuple(),))))

    def test_a_list_within_itself(self):
        loop = []
        loop.append(loop)
        self.is_none(loop)
        self.is_none(("row", loop))
        self.is_none(("row", (("row", loop),)))

    def test_what_was_handed_in_is_as_it_was(self):
        inner = [1, [2]]
        things = [["way", 0, 0], ("row", [WAY, ["way"]]), {"row": inner}, [inner, inner], ("row", (inner, {1: inner}))]
        was = copy.deepcopy(things)
        for thing in things:
            self.is_none(thing)
        self.assertEqual(things, was)


class ManyEvents(unittest.TestCase):
    def test_ways(self):
        self.assertEqual(many_events(("way", 0, 0)), 1)
        self.assertEqual(many_events(("way", 999, 1)), 1)

    def test_rows(self):
        self.assertEqual(many_events(NOTHING), 0)
        self.assertEqual(many_events(row(WAY)), 1)
        self.assertEqual(many_events(row(WAY, NOTHING, WAY, row(WAY, WAY))), 4)
        self.assertEqual(many_events(row(NOTHING, row(NOTHING))), 0)

    def test_times(self):
        for number in (0, 1, 2, 400, 401, MOST):
            self.assertEqual(many_events(times(number, WAY)), number)
            self.assertEqual(many_events(times(number, row(WAY, WAY, WAY))), 3 * number)

    def test_parts_without_events(self):
        self.assertEqual(many_events(times(MOST, NOTHING)), 0)
        self.assertEqual(many_events(times(MOST, times(0, WAY))), 0)
        self.assertEqual(many_events(times(0, times(MOST, WAY))), 0)
        self.assertEqual(many_events(row(times(MOST, NOTHING), WAY, times(0, WAY))), 1)

    def test_times_within_times(self):
        self.assertEqual(many_events(times(3, times(4, times(5, WAY)))), 60)
        self.assertEqual(many_events(in_times(19, WAY, MOST)), 10 ** (18 * 19))
        self.assertEqual(many_events(times(MOST, row(times(MOST, WAY), WAY))), MOST * (MOST + 1))

    def test_a_row_of_times(self):
        self.assertEqual(many_events(row(times(MOST, WAY), times(7, row(WAY, WAY)), WAY)), MOST + 15)

    def test_a_whole_number(self):
        for pattern in (WAY, NOTHING, times(0, WAY), times(2, row(WAY))):
            self.assertIs(type(many_events(pattern)), int)

    def test_as_many_as_the_run_has(self):
        for pattern in PATTERNS:
            self.assertEqual(many_events(pattern), len(written_out(pattern)))


def written_out(pattern):
    """The run of a small pattern, one event at a time."""
    run = []
    if pattern[0] == "way":
        run.append((pattern[1], pattern[2]))
    elif pattern[0] == "row":
        for part in pattern[1]:
            run.extend(written_out(part))
    else:
        for _ in range(pattern[1]):
            run.extend(written_out(pattern[2]))
    return run


def small_patterns():
    """All sorts of small patterns, those of each round made of those of the one ahead."""
    known = [("way", 0, 0), ("way", 7, 1), ("row", ())]
    for _ in range(2):
        more = [times(number, one) for number in (0, 1, 3) for one in known]
        more += [row(one, other) for one in known[:5] for other in known[-5:]]
        known = known + more
    return known


PATTERNS = small_patterns()


class RunOf(unittest.TestCase):
    def test_a_way(self):
        self.assertEqual(run_of(("way", 12, 1)), [(12, 1)])
        self.assertEqual(run_of(("way", 0, 0)), [(0, 0)])

    def test_in_order(self):
        pattern = row(("way", 3, 0), times(2, row(("way", 1, 1), ("way", 2, 0))), ("way", 3, 1))
        self.assertEqual(run_of(pattern), [(3, 0), (1, 1), (2, 0), (1, 1), (2, 0), (3, 1)])

    def test_times_within_times(self):
        inner = row(times(2, ("way", 1, 1)), ("way", 2, 0))
        self.assertEqual(run_of(times(2, inner)), [(1, 1), (1, 1), (2, 0)] * 2)

    def test_small_patterns(self):
        for pattern in PATTERNS:
            self.assertEqual(run_of(pattern), written_out(pattern))

    def test_a_list_of_tuples(self):
        run = run_of(times(2, row(WAY, ("way", 0, 0))))
        self.assertIs(type(run), list)
        for event in run:
            self.assertIs(type(event), tuple)
            self.assertEqual([type(number) for number in event], [int, int])

    def test_without_events(self):
        empty = (
            NOTHING,
            row(NOTHING, NOTHING),
            times(0, WAY),
            times(MOST, NOTHING),
            times(MOST, times(MOST, row(NOTHING, times(0, WAY)))),
            times(0, times(MOST, WAY)),
            times(MOST, times(0, times(MOST, WAY))),
            in_times(19, NOTHING, MOST),
        )
        for pattern in empty:
            self.assertEqual(run_of(pattern), [])
            self.assertEqual(run_of(row(pattern, WAY, pattern)), [(5, 1)])
            self.assertEqual(run_of(times(400, row(pattern, WAY))), [(5, 1)] * 400)

    def test_at_most_400_events(self):
        for many in (399, 400):
            self.assertEqual(run_of(times(many, WAY)), [(5, 1)] * many)
            self.assertEqual(run_of(("row", (WAY,) * many)), [(5, 1)] * many)
            self.assertEqual(run_of(row(times(many - 2, WAY), NOTHING, WAY, WAY)), [(5, 1)] * many)
        self.assertEqual(len(run_of(times(20, times(20, WAY)))), 400)
        self.assertEqual(len(run_of(row(times(MOST, NOTHING), times(400, WAY), times(0, WAY)))), 400)

    def test_no_run_of_a_longer_one(self):
        longer = (
            times(401, WAY),
            ("row", (WAY,) * 401),
            row(times(400, WAY), WAY),
            row(WAY, times(400, WAY)),
            times(3, row(times(133, WAY), WAY)),
            times(201, row(WAY, WAY)),
            times(MOST, WAY),
            in_times(19, WAY, MOST),
            times(MOST, row(NOTHING, WAY)),
            row(times(0, WAY), times(MOST, times(MOST, WAY))),
        )
        for pattern in longer:
            with self.assertRaises(NoRun):
                run_of(pattern)
            with self.assertRaises(GuessError):
                run_of(pattern)

    def test_a_told_list_is_the_askers_own(self):
        for pattern in (WAY, row(WAY, WAY), times(2, row(WAY)), times(1, WAY), row(times(1, row(WAY)))):
            was = copy.deepcopy(pattern)
            first = run_of(pattern)
            wanted = list(first)
            first.append((0, 0))
            first[0] = None
            self.assertEqual(run_of(pattern), wanted)
            self.assertIsNot(run_of(pattern), run_of(pattern))
            self.assertEqual(pattern, was)

    def test_an_empty_told_list_is_the_askers_own(self):
        for pattern in (NOTHING, times(0, WAY), times(MOST, NOTHING)):
            run_of(pattern).append((0, 0))
            self.assertEqual(run_of(pattern), [])


class Beyond(unittest.TestCase):
    """The interface: somewhat beyond a limit no error is raised but those that are told."""

    def test_more_than_twenty_within_one_another(self):
        for within in (in_rows, in_times):
            self.assertEqual(many_events(within(30, WAY)), 1)
            self.assertEqual(run_of(within(30, WAY)), [(5, 1)])

    def test_numbers_and_places_beyond(self):
        self.assertEqual(many_events(times(10 ** 20, ("way", 1000, 1))), 10 ** 20)
        self.assertEqual(run_of(times(10 ** 20, NOTHING)), [])
        self.assertEqual(run_of(("way", 1000, 1)), [(1000, 1)])

    def test_more_than_400_parts(self):
        self.assertEqual(many_events(("row", (NOTHING,) * 900 + (WAY,))), 1)
        self.assertEqual(run_of(("row", (NOTHING,) * 900 + (WAY,))), [(5, 1)])


if __name__ == "__main__":
    unittest.main()
