"""5.3, 5.5 and 5.7 (and 0.1, 0.3), as far as they speak of nights: pours, the state behind, and wet weather."""

import itertools
import random
import unittest

from lockhouse.boats import begun
from lockhouse.canal import Canal, Reach
from lockhouse.kinds import BasinLock, PlainLock
from lockhouse.nights import after_night, night_pours, wet_enough
from lockhouse.vessels import poured_all, total
from lockhouse.weirs import still
from tests.helpers import GREATEST, LARGE, some_canals, some_worlds, told

# The vessels of `stair`: three reaches, a chamber and a basin for each of two locks, the sea, the sky.
SEA = 7
SKY = 8


def stair(nights=None):
    """Reaches 0, 1, 2, each of which spills to the one ahead of it, the first to the sea."""
    reaches = [Reach("a", 2, 10, 1, 8, -1), Reach("b", 2, 20, 1, 8, 0), Reach("c", 2, 30, 1, 8, 1)]
    return Canal(reaches, [PlainLock("p", 1, 0, 4), BasinLock("q", 2, 1, 6, 3)], nights)


def pond(nights=None):
    return Canal([Reach("a", 2, 10, 1, 8, -1)], [], nights)


def lying_at(reaches, others=(4, 0, 0, 3, 100, -50)):
    return tuple(reaches) + tuple(others)


class NightPours(unittest.TestCase):
    def pours(self, reaches, weather, canal=None):
        return night_pours(canal or stair(), (0, lying_at(reaches), ()), weather)

    def test_the_suns_then_the_rains_each_from_the_first_reach_on(self):
        self.assertEqual(
            self.pours((8, 8, 8), [(1, 2), (3, 4), (5, 6)]),
            [(0, SKY, 2), (1, SKY, 4), (2, SKY, 6), (SKY, 0, 1), (SKY, 1, 3), (SKY, 2, 5)],
        )

    def test_nothing_comes_and_nothing_goes(self):
        self.assertEqual(self.pours((8, 8, 8), [(0, 0), (0, 0), (0, 0)]), [])

    def test_pours_of_nought_are_left_out(self):
        self.assertEqual(self.pours((8, 8, 8), [(0, 2), (0, 0), (5, 0)]), [(0, SKY, 2), (SKY, 2, 5)])
        self.assertEqual(self.pours((8, 0, 8), [(0, 0), (0, 6), (0, 0)]), [])
        self.assertEqual(self.pours((0, 0, 0), [(0, 1), (0, 2), (0, 3)]), [])

    def test_all_that_is_there_where_more_goes(self):
        self.assertEqual(
            self.pours((8, 8, 8), [(0, 8), (0, 9), (0, GREATEST)]), [(0, SKY, 8), (1, SKY, 8), (2, SKY, 8)],
        )
        self.assertEqual(self.pours((0, 1, 8), [(0, 5), (0, 5), (0, 7)]), [(1, SKY, 1), (2, SKY, 7)])

    def test_the_sun_asks_for_no_least(self):
        self.assertEqual(self.pours((2, 1, 3), [(0, 1), (0, 1), (0, 3)]), [(0, SKY, 1), (1, SKY, 1), (2, SKY, 3)])

    def test_the_sun_takes_nothing_of_what_comes_in_the_same_night(self):
        self.assertEqual(self.pours((0, 3, 8), [(5, 5), (5, 5), (0, 0)]), [(1, SKY, 3), (SKY, 0, 5), (SKY, 1, 5)])

    def test_the_sun_takes_nothing_of_what_spills_in_the_same_night(self):
        self.assertEqual(
            self.pours((0, 20, 30), [(0, 9), (0, 0), (7, 0)]), [(SKY, 2, 7), (2, 1, 7), (1, 0, 7)],
        )

    def test_rain_to_the_crest_and_one_above_it(self):
        self.assertEqual(self.pours((8, 8, 8), [(2, 0), (0, 0), (0, 0)]), [(SKY, 0, 2)])
        self.assertEqual(self.pours((8, 8, 8), [(3, 0), (0, 0), (0, 0)]), [(SKY, 0, 3), (0, SEA, 1)])

    def test_spills_from_reach_to_reach_down_to_the_sea(self):
        self.assertEqual(
            self.pours((10, 20, 30), [(0, 0), (0, 0), (7, 0)]), [(SKY, 2, 7), (2, 1, 7), (1, 0, 7), (0, SEA, 7)],
        )
        self.assertEqual(
            self.pours((8, 18, 28), [(1, 0), (1, 0), (12, 0)]),
            [(SKY, 0, 1), (SKY, 1, 1), (SKY, 2, 12), (2, 1, 10), (1, 0, 9), (0, SEA, 8)],
        )

    def test_the_weirs_from_the_last_reach_on(self):
        reaches = [Reach(name, 0, 5, 1, 5, -1) for name in ("a", "b", "c")]
        state = (0, (5, 5, 5, 0, 0), ())
        self.assertEqual(
            night_pours(Canal(reaches, []), state, [(1, 0), (2, 0), (3, 0)]),
            [(4, 0, 1), (4, 1, 2), (4, 2, 3), (2, 3, 3), (1, 3, 2), (0, 3, 1)],
        )

    def test_the_sun_makes_room_ahead_of_the_rain_and_only_then_it_spills(self):
        self.assertEqual(self.pours((10, 20, 30), [(4, 4), (0, 0), (0, 0)]), [(0, SKY, 4), (SKY, 0, 4)])
        self.assertEqual(self.pours((15, 8, 8), [(2, 6), (0, 0), (0, 0)]), [(0, SKY, 6), (SKY, 0, 2), (0, SEA, 1)])

    def test_a_reach_that_stood_above_its_crest_spills_though_nothing_comes(self):
        self.assertEqual(self.pours((8, 8, 31), [(0, 0), (0, 0), (0, 0)]), [(2, 1, 1)])

    def test_a_canal_of_one_reach(self):
        self.assertEqual(night_pours(pond(), (0, (8, 0, 0), ()), [(5, 1)]), [(0, 2, 1), (2, 0, 5), (0, 1, 2)])
        self.assertEqual(night_pours(pond(), (0, (8, 0, 0), ()), [(0, 0)]), [])
        self.assertEqual(night_pours(pond(), (0, (8, 0, 0), ()), [(0, 9)]), [(0, 2, 8)])

    def test_the_weather_that_is_told_counts_not_the_foretold_one(self):
        canal = pond([[(1, 0)], [(2, 0)]])
        self.assertEqual(night_pours(canal, (1, (8, 0, 0), ()), [(0, 3)]), [(0, 2, 3)])

    def test_the_greatest_numbers_and_vessels_of_many_figures(self):
        self.assertEqual(
            night_pours(pond(), (0, (LARGE, 0, 0), ()), [(GREATEST, GREATEST)]),
            [(0, 2, GREATEST), (2, 0, GREATEST), (0, 1, LARGE - 10)],
        )

    def test_kinds(self):
        told_pours = self.pours((8, 18, 28), [(1, 1), (1, 1), (12, 1)])
        self.assertIs(type(told_pours), list)
        for pour in told_pours:
            self.assertIs(type(pour), tuple)
            self.assertEqual([type(part) for part in pour], [int, int, int])

    def test_what_is_told_is_the_askers_own(self):
        canal = stair()
        state = (0, lying_at((10, 20, 30)), ())
        weather = [(0, 0), (0, 0), (7, 0)]
        kept = night_pours(canal, state, weather)
        night_pours(canal, state, weather).clear()
        self.assertEqual(night_pours(canal, state, weather), kept)
        self.assertEqual(len(kept), 4)

    def test_what_is_handed_in_stays_as_it_was(self):
        canal = stair([[(1, 1)] * 3])
        state = (0, lying_at((10, 20, 30)), (0,))
        weather = [(3, 2), (0, 50), (7, 0)]
        night_pours(canal, state, weather)
        after_night(canal, state, weather)
        wet_enough(weather, canal.nights[0])
        self.assertEqual(weather, [(3, 2), (0, 50), (7, 0)])
        self.assertEqual(state, (0, lying_at((10, 20, 30)), (0,)))
        self.assertEqual(told(canal), told(stair([[(1, 1)] * 3])))

    def test_one_reach_all_small_numbers(self):
        for water, comes, goes in itertools.product(range(13), range(6), range(15)):
            left = max(0, water - goes)
            wanted = [(0, 2, water - left), (2, 0, comes), (0, 1, max(0, left + comes - 10))]
            self.assertEqual(
                night_pours(pond(), (0, (water, 0, 0), ()), [(comes, goes)]), [pour for pour in wanted if pour[2]],
            )


class AfterNight(unittest.TestCase):
    def test_the_day_is_one_more_and_the_places_stay(self):
        state = (3, lying_at((8, 8, 8)), (2, 0, 1))
        behind = after_night(stair(), state, [(1, 2), (3, 4), (5, 6)])
        self.assertEqual(behind, (4, lying_at((7, 7, 7), (4, 0, 0, 3, 100, -47)), (2, 0, 1)))

    def test_nothing_comes_and_nothing_goes(self):
        state = (0, lying_at((8, 8, 8)), (0,))
        self.assertEqual(after_night(stair(), state, [(0, 0)] * 3), (1, lying_at((8, 8, 8)), (0,)))

    def test_more_goes_than_is_there(self):
        state = (0, lying_at((8, 1, 0)), ())
        self.assertEqual(
            after_night(stair(), state, [(0, 9), (4, 9), (0, 9)]), (1, lying_at((0, 4, 0), (4, 0, 0, 3, 100, -45)), ()),
        )

    def test_rain_down_to_the_sea(self):
        state = (0, lying_at((10, 20, 30)), ())
        behind = after_night(stair(), state, [(0, 0), (0, 0), (7, 0)])
        self.assertEqual(behind, (1, lying_at((10, 20, 30), (4, 0, 0, 3, 107, -57)), ()))

    def test_nothing_is_refused_on_a_day_behind_the_last_night(self):
        for canal in (pond(), pond([]), pond([[(9, 9)]])):
            self.assertEqual(after_night(canal, (1, (8, 0, 0), ()), [(1, 3)]), (2, (6, 0, 2), ()))
            self.assertEqual(after_night(canal, (7, (8, 0, 0), ()), [(1, 3)]), (8, (6, 0, 2), ()))

    def test_the_sky_may_stand_below_nought(self):
        self.assertEqual(after_night(pond(), (0, (8, 0, 0), ()), [(5, 0)]), (1, (10, 3, -5), ()))

    def test_kinds(self):
        behind = after_night(stair(), (0, lying_at((8, 8, 8)), (0,)), [(1, 2)] * 3)
        self.assertIs(type(behind), tuple)
        self.assertEqual([type(part) for part in behind], [int, tuple, tuple])

    def test_the_pours_lead_there_and_no_water_is_made_or_lost(self):
        source = random.Random(8)
        for canal, ways in some_worlds(80):
            state = begun(canal, ways)
            for _ in range(4):
                weather = [(source.choice((0, 1, 30, GREATEST)), source.choice((0, 2, 30, GREATEST)))
                           for _ in canal.reaches]
                pours = night_pours(canal, state, weather)
                behind = after_night(canal, state, weather)
                self.assertEqual(behind, (state[0] + 1, poured_all(state[1], pours), state[2]))
                self.assertEqual(total(behind[1]), total(state[1]))
                self.assertTrue(still(canal.weirs(), behind[1]))
                self.assertGreaterEqual(min(behind[1][:-1]), 0)
                self.assertTrue(all(pour[2] > 0 for pour in pours))
                state = behind

    def test_as_many_nights_as_are_foretold(self):
        for canal in some_canals(30):
            state = begun(canal, [])
            for day, weather in enumerate(canal.nights):
                self.assertEqual(state[0], day)
                state = after_night(canal, state, weather)
            self.assertEqual(total(state[1]), total(canal.start()))


class WetEnough(unittest.TestCase):
    FORETOLD = [(4, 2), (0, 0), (7, 9)]

    def wet(self, weather):
        return wet_enough(weather, self.FORETOLD)

    def test_the_same_weather(self):
        self.assertIs(self.wet([(4, 2), (0, 0), (7, 9)]), True)

    def test_more_comes_or_less_goes(self):
        self.assertIs(self.wet([(5, 2), (0, 0), (7, 9)]), True)
        self.assertIs(self.wet([(4, 2), (1, 0), (7, 9)]), True)
        self.assertIs(self.wet([(4, 2), (0, 0), (7, 8)]), True)
        self.assertIs(self.wet([(GREATEST, 0), (GREATEST, 0), (GREATEST, 0)]), True)

    def test_less_comes_in_one_reach(self):
        self.assertIs(self.wet([(3, 2), (0, 0), (7, 9)]), False)
        self.assertIs(self.wet([(4, 2), (0, 0), (6, 9)]), False)

    def test_more_goes_in_one_reach(self):
        self.assertIs(self.wet([(4, 3), (0, 0), (7, 9)]), False)
        self.assertIs(self.wet([(4, 2), (0, 1), (7, 9)]), False)
        self.assertIs(self.wet([(4, 2), (0, 0), (7, 10)]), False)

    def test_more_comes_and_more_goes(self):
        self.assertIs(self.wet([(9, 3), (0, 0), (7, 9)]), False)
        self.assertIs(self.wet([(5, 3), (1, 1), (8, 10)]), False)

    def test_less_comes_and_less_goes(self):
        self.assertIs(self.wet([(3, 1), (0, 0), (7, 9)]), False)

    def test_one_reach_does_not_make_up_for_another(self):
        self.assertIs(self.wet([(9, 0), (9, 0), (6, 9)]), False)
        self.assertIs(self.wet([(3, 2), (9, 0), (9, 0)]), False)

    def test_tuples_of_pairs_too(self):
        self.assertIs(wet_enough(((4, 2), (0, 0), (7, 9)), self.FORETOLD), True)
        self.assertIs(wet_enough(self.FORETOLD, ((4, 2), (1, 0), (7, 9))), False)

    def test_all_small_pairs(self):
        for pair in itertools.product(range(3), repeat=2):
            for other in itertools.product(range(3), repeat=2):
                wanted = pair[0] >= other[0] and pair[1] <= other[1]
                self.assertIs(wet_enough([pair], [other]), wanted)
                self.assertIs(wet_enough([(1, 1), pair], [(1, 1), other]), wanted)


if __name__ == "__main__":
    unittest.main()
