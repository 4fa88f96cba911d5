"""5.6 and 5.7 (and 0.1, 0.3, 0.5): rows of deeds, how long they can be, and states that are as wet as others."""

import itertools
import random
import unittest

from lockhouse.boats import begun, rank
from lockhouse.canal import Canal, Reach
from lockhouse.deeds import after, may, why_not
from lockhouse.errors import NotNow
from lockhouse.kinds import BasinLock, PlainLock, PumpLock
from lockhouse.nights import after_night, wet_enough
from lockhouse.vessels import total
from lockhouse.walking import as_wet, walked
from tests.helpers import GREATEST, some_moves, some_worlds, told

NIGHT = ("night",)
WAYS = [(0, ((0, "up"), (1, "up"))), (2, ((1, "down"),))]


def stair():
    """Three reaches, a plain lock and a basin lock: chambers 3 and 4, basins 5 and 6, 7 the sea, 8 the sky."""
    reaches = [Reach(name, 5, 100, 1, 50, at - 1) for at, name in enumerate(("a", "b", "c"))]
    return Canal(reaches, [PlainLock("p", 1, 0, 10), BasinLock("q", 2, 1, 10, 4)], [[(0, 1), (0, 0), (2, 0)]])


class Walked(unittest.TestCase):
    def refused(self, row, state=None):
        canal = stair()
        first = state or begun(canal, WAYS)
        handed = list(row)
        with self.assertRaises(NotNow) as caught:
            walked(canal, WAYS, first, handed)
        self.assertIs(type(caught.exception), NotNow)
        self.assertEqual(handed, row)
        self.assertEqual(told(canal), told(stair()))

    def test_a_row_of_no_deeds(self):
        canal = stair()
        state = begun(canal, WAYS)
        self.assertEqual(walked(canal, WAYS, state, []), state)
        self.assertEqual(walked(canal, [], begun(canal, []), []), begun(canal, []))

    def test_one_deed(self):
        canal = stair()
        state = begun(canal, WAYS)
        for deed in may(canal, WAYS, state):
            self.assertEqual(walked(canal, WAYS, state, [deed]), after(canal, WAYS, state, deed))

    def test_several_deeds(self):
        canal = stair()
        row = [("pass", 0), ("let", 0), NIGHT, ("pass", 1), ("pass", 0)]
        # Behind each deed: the three reaches, the two chambers, the two basins, the sea and the sky.
        wanted = [
            (0, (50, 40, 50, 10, 0, 0, 0, 0, 0), (1, 0)),
            (0, (60, 40, 50, 0, 0, 0, 0, 0, 0), (1, 0)),
            (1, (59, 40, 52, 0, 0, 0, 0, 0, -1), (1, 0)),
            (1, (59, 46, 42, 0, 0, 0, 4, 0, -1), (1, 1)),
            (1, (59, 46, 36, 0, 10, 0, 0, 0, -1), (2, 1)),
        ]
        for many in range(len(row)):
            self.assertEqual(walked(canal, WAYS, begun(canal, WAYS), row[:many + 1]), wanted[many])

    def test_the_order_counts(self):
        self.refused([("let", 0), ("pass", 0)])
        canal = stair()
        walked(canal, WAYS, begun(canal, WAYS), [("pass", 0), ("let", 0)])

    def test_the_first_the_midmost_or_the_last_deed_cannot_be_done(self):
        self.refused([("let", 0), ("pass", 0), NIGHT])
        self.refused([("pass", 0), ("let", 1), NIGHT])
        self.refused([("pass", 0), NIGHT, ("let", 1)])
        self.refused([("pass", 0), NIGHT, NIGHT])
        self.refused([("pass", 1), ("pass", 0), ("pass", 0), ("pass", 1)])

    def test_for_each_word(self):
        self.refused([("pass", 1), ("pass", 1)])
        self.refused([("pass", 0)], (0, (50, 14, 50, 0, 0, 0, 0, 0, 0), (0, 0)))
        self.refused([NIGHT, NIGHT])
        self.refused([("let", 1)])
        ways = [(0, ((0, "up"), (1, "up")))] * 2
        canal = stair()
        self.assertEqual(why_not(canal, ways, (0, canal.start(), (0, 1)), ("pass", 0)), "berth")
        self.assertRaises(NotNow, walked, canal, ways, begun(canal, ways), [("pass", 1), ("pass", 0)])

    def test_what_is_handed_in_stays_as_it_was(self):
        canal = stair()
        row = [("pass", 0), NIGHT]
        ways = list(WAYS)
        state = begun(canal, ways)
        walked(canal, ways, state, row)
        self.assertEqual((row, ways, state), ([("pass", 0), NIGHT], WAYS, begun(canal, WAYS)))
        self.assertEqual(told(canal), told(stair()))

    def test_a_row_in_two_parts(self):
        canal = stair()
        row = [("pass", 0), ("let", 0), NIGHT, ("pass", 1), ("pass", 0), ("let", 1)]
        whole = walked(canal, WAYS, begun(canal, WAYS), row)
        for many in range(len(row) + 1):
            midway = walked(canal, WAYS, begun(canal, WAYS), row[:many])
            self.assertEqual(walked(canal, WAYS, midway, row[many:]), whole)

    def test_no_row_is_longer_than_the_rank_and_the_sum_of_all_water_stays(self):
        source = random.Random(11)
        for canal, ways in some_worlds(60):
            first = begun(canal, ways)
            row = []
            state = first
            while may(canal, ways, state):
                row.append(source.choice(may(canal, ways, state)))
                state = after(canal, ways, state, row[-1])
            self.assertEqual(walked(canal, ways, first, row), state)
            self.assertLessEqual(len(row), rank(canal, ways, first))
            self.assertLessEqual(len(row), rank(canal, ways, first) - rank(canal, ways, state))
            self.assertEqual(total(state[1]), total(first[1]))


class AsWet(unittest.TestCase):
    STATE = (1, (50, 60, 70, 10, 0, 0, 3, 8, -9), (1, 0))

    def wet(self, state, other=None):
        told_wet = as_wet(stair(), state, other or self.STATE)
        self.assertIs(type(told_wet), bool)
        return told_wet

    def changed(self, vessel, amount):
        waters = list(self.STATE[1])
        waters[vessel] += amount
        return (1, tuple(waters), (1, 0))

    def test_the_same_state(self):
        self.assertTrue(self.wet(self.STATE))

    def test_another_day(self):
        for day in (0, 2):
            self.assertFalse(self.wet((day,) + self.STATE[1:]))

    def test_another_place(self):
        for places in ((0, 0), (2, 0), (1, 1)):
            self.assertFalse(self.wet(self.STATE[:2] + (places,)))

    def test_a_reach(self):
        for vessel in (0, 1, 2):
            self.assertTrue(self.wet(self.changed(vessel, 1)))
            self.assertTrue(self.wet(self.changed(vessel, GREATEST)))
            self.assertFalse(self.wet(self.changed(vessel, -1)))

    def test_a_chamber(self):
        self.assertFalse(self.wet(self.changed(3, -10)))
        self.assertFalse(self.wet(self.changed(4, 10)))

    def test_a_basin(self):
        for vessel in (5, 6):
            self.assertFalse(self.wet(self.changed(vessel, 1)))
        self.assertFalse(self.wet(self.changed(6, -1)))

    def test_the_sea_and_the_sky_are_not_asked(self):
        for vessel in (7, 8):
            for amount in (-5, 5):
                self.assertTrue(self.wet(self.changed(vessel, amount)))

    def test_one_reach_does_not_make_up_for_another(self):
        self.assertFalse(self.wet((1, (90, 59, 90, 10, 0, 0, 3, 8, -9), (1, 0))))
        self.assertTrue(self.wet((1, (90, 60, 90, 10, 0, 0, 3, 8, -9), (1, 0))))

    def test_wetter_reaches_do_not_make_up_for_the_rest(self):
        wetter = (90, 90, 90, 10, 0, 0, 3, 8, -9)
        self.assertFalse(self.wet((0, wetter, (1, 0))))
        self.assertFalse(self.wet((1, wetter, (1, 1))))
        self.assertFalse(self.wet((1, (90, 90, 90, 0, 0, 0, 3, 8, -9), (1, 0))))
        self.assertFalse(self.wet((1, (90, 90, 90, 10, 0, 0, 4, 8, -9), (1, 0))))

    def test_no_boats_and_one_reach(self):
        canal = Canal([Reach("a", 0, 10, 1, 5, -1)], [])
        self.assertIs(as_wet(canal, (0, (5, 0, 0), ()), (0, (5, 9, -9), ())), True)
        self.assertIs(as_wet(canal, (0, (6, 0, 0), ()), (0, (5, 0, 0), ())), True)
        self.assertIs(as_wet(canal, (0, (4, 9, 9), ()), (0, (5, 0, 0), ())), False)
        self.assertIs(as_wet(canal, (1, (5, 0, 0), ()), (0, (5, 0, 0), ())), False)

    def test_all_small_reaches(self):
        rest = (10, 0, 0, 3, 8, -9)
        for reaches in itertools.product(range(3), repeat=3):
            for others in itertools.product(range(3), repeat=3):
                wanted = all(one >= other for one, other in zip(reaches, others))
                self.assertEqual(self.wet((1, reaches + rest, (1, 0)), (1, others + rest, (1, 0))), wanted)


def wetter(source, canal, state):
    """A state that is as wet as this one, its sea and its sky another."""
    waters = list(state[1])
    for at in range(len(canal.reaches)):
        waters[at] += source.choice((0, 0, 1, 2, 9, GREATEST))
    waters[canal.sea()] += source.randrange(0, 3)
    waters[canal.sky()] += source.randrange(-2, 3)
    return (state[0], tuple(waters), state[2])


class WetterStates(unittest.TestCase):
    def test_what_can_be_done_can_be_done_in_a_wetter_state_and_it_is_as_wet_behind(self):
        source = random.Random(12)
        for canal, ways, state, deed, behind in some_moves(120):
            other = wetter(source, canal, state)
            self.assertIs(as_wet(canal, other, state), True)
            for able in may(canal, ways, state):
                self.assertEqual(why_not(canal, ways, other, able), "")
                self.assertIs(as_wet(canal, after(canal, ways, other, able), after(canal, ways, state, able)), True)

    def test_a_pump_and_a_basin_just_at_the_least(self):
        reaches = [Reach("a", 5, 20, 1, 0, -1), Reach("b", 5, 20, 1, 0, 0)]
        for lock in (PlainLock("k", 1, 0, 4), BasinLock("k", 1, 0, 4, 3), PumpLock("k", 1, 0, 4, 3)):
            canal = Canal(reaches, [lock])
            ways = [(0, ((0, "up"),)), (1, ((0, "down"),))]
            for low, high, chamber in itertools.product(range(12), range(12), (0, 4)):
                state = (0, (low, high, chamber, 0, 0, 0), (0, 0))
                for more in ((1, 0), (0, 1)):
                    other = (0, (low + more[0], high + more[1], chamber, 0, 0, 0), (0, 0))
                    for able in may(canal, ways, state):
                        self.assertEqual(why_not(canal, ways, other, able), "")
                        self.assertTrue(as_wet(canal, after(canal, ways, other, able), after(canal, ways, state, able)))

    def test_a_whole_row_in_a_wetter_state(self):
        source = random.Random(13)
        for canal, ways in some_worlds(60):
            row = []
            state = begun(canal, ways)
            while may(canal, ways, state):
                row.append(source.choice(may(canal, ways, state)))
                state = after(canal, ways, state, row[-1])
            other = wetter(source, canal, begun(canal, ways))
            self.assertTrue(as_wet(canal, walked(canal, ways, other, row), state))

    def test_a_night_in_wetter_weather_leaves_a_state_that_is_as_wet(self):
        source = random.Random(14)
        for canal, ways, state, deed, behind in some_moves(60):
            weather = [(source.randrange(0, 40), source.randrange(0, 40)) for _ in canal.reaches]
            other = [(comes + source.randrange(0, 9), max(0, goes - source.randrange(0, 9))) for comes, goes in weather]
            self.assertIs(wet_enough(other, weather), True)
            self.assertTrue(as_wet(canal, after_night(canal, state, other), after_night(canal, state, weather)))
            more = wetter(source, canal, state)
            self.assertTrue(as_wet(canal, after_night(canal, more, other), after_night(canal, state, weather)))


if __name__ == "__main__":
    unittest.main()
