"""1.4 to 1.6 (and 0.1, 0.3): weirs, spilling, still waters, settling."""

import itertools
import random
import unittest

from lockhouse.vessels import total
from lockhouse.weirs import over, settled, spilled, spills, still
from tests.helpers import LARGE

# Reach 0 gives to the sea (3), reach 1 to reach 0, reach 2 to reach 1.
STAIRS = [(10, 3), (20, 0), (30, 1)]


def random_weirs(source, reaches, vessels):
    outside = list(range(reaches, vessels))
    return [
        (source.randrange(-5, 20), source.choice(list(range(at)) + outside))
        for at in range(reaches)
    ]


def random_waters(source, vessels):
    return tuple(source.randrange(-20, 60) for _ in range(vessels))


def spilled_anyhow(weirs, waters, picks, rounds=2000):
    """Spills as `picks` tells, pairs (reach, most), round and round until the
    waters are still; tells the waters and what each reach has given in all."""
    given = [0] * len(weirs)
    for _ in range(rounds):
        if still(weirs, waters):
            return waters, given
        for at, most in picks:
            above = over(weirs, waters, at)
            given[at] += above if most is None else min(above, most)
            waters = spilled(weirs, waters, at, most)
    raise AssertionError("the waters never came to be still")


class Over(unittest.TestCase):
    def test_below_at_and_above_the_crest(self):
        self.assertEqual(over([(10, 1)], (0, 0), 0), 0)
        self.assertEqual(over([(10, 1)], (9, 0), 0), 0)
        self.assertEqual(over([(10, 1)], (10, 0), 0), 0)
        self.assertEqual(over([(10, 1)], (11, 0), 0), 1)
        self.assertEqual(over([(10, 1)], (25, 0), 0), 15)

    def test_each_reach_by_its_own_crest(self):
        waters = (11, 22, 33, 99)
        self.assertEqual([over(STAIRS, waters, at) for at in range(3)], [1, 2, 3])

    def test_below_nought_and_many_figures(self):
        self.assertEqual(over([(0, 1)], (-5, 0), 0), 0)
        self.assertEqual(over([(-5, 1)], (-3, 0), 0), 2)
        self.assertEqual(over([(LARGE, 1)], (LARGE + 7, 0), 0), 7)


class Spilled(unittest.TestCase):
    def test_all_that_stands_above(self):
        self.assertEqual(spilled(STAIRS, (0, 0, 37, 0), 2), (0, 7, 30, 0))
        self.assertEqual(spilled(STAIRS, (12, 0, 37, 0), 0), (10, 0, 37, 2))

    def test_only_that_reach_spills(self):
        self.assertEqual(spilled(STAIRS, (12, 25, 37, 1), 1), (17, 20, 37, 1))

    def test_at_its_crest_one_above_and_one_below(self):
        self.assertEqual(spilled([(10, 1)], (10, 0), 0), (10, 0))
        self.assertEqual(spilled([(10, 1)], (11, 0), 0), (10, 1))
        self.assertEqual(spilled([(10, 1)], (9, 0), 0), (9, 0))

    def test_nothing_above_spills_nothing_whatever_most_is(self):
        for most in (None, 0, 1, 100):
            self.assertEqual(spilled([(10, 1)], (4, 0), 0, most), (4, 0))
            self.assertEqual(spilled([(10, 1)], (-4, 0), 0, most), (-4, 0))

    def test_no_more_than_so_much(self):
        self.assertEqual(spilled([(10, 1)], (15, 0), 0, 0), (15, 0))
        self.assertEqual(spilled([(10, 1)], (15, 0), 0, 1), (14, 1))
        self.assertEqual(spilled([(10, 1)], (15, 0), 0, 4), (11, 4))
        self.assertEqual(spilled([(10, 1)], (15, 0), 0, 5), (10, 5))
        self.assertEqual(spilled([(10, 1)], (15, 0), 0, 6), (10, 5))
        self.assertEqual(spilled([(10, 1)], (15, 0), 0, most=None), (10, 5))

    def test_a_crest_below_nought_is_never_refused(self):
        self.assertEqual(spilled([(-10, 1)], (-4, 0), 0), (-10, 6))

    def test_many_figures(self):
        self.assertEqual(spilled([(1, 1)], (LARGE, -LARGE), 0), (1, -1))

    def test_tells_a_tuple_and_what_is_handed_in_stays(self):
        weirs = [(10, 3), (20, 0), (30, 1)]
        waters = (12, 25, 37, 1)
        self.assertIs(type(spilled(weirs, waters, 1)), tuple)
        self.assertIs(type(spilled(weirs, waters, 1, 0)), tuple)
        self.assertEqual(weirs, STAIRS)
        self.assertEqual(waters, (12, 25, 37, 1))


class Still(unittest.TestCase):
    def test_just_where_no_reach_stands_above_its_crest(self):
        self.assertIs(still(STAIRS, (10, 20, 30, 0)), True)
        self.assertIs(still(STAIRS, (9, 19, 29, 0)), True)
        self.assertIs(still(STAIRS, (11, 20, 30, 0)), False)
        self.assertIs(still(STAIRS, (10, 21, 30, 0)), False)
        self.assertIs(still(STAIRS, (10, 20, 31, 0)), False)

    def test_vessels_that_are_no_reaches_are_not_asked(self):
        self.assertIs(still(STAIRS, (0, 0, 0, LARGE)), True)

    def test_no_weirs(self):
        self.assertIs(still([], (5, 6)), True)
        self.assertIs(still([], ()), True)


class Settled(unittest.TestCase):
    def test_down_the_stairs(self):
        self.assertEqual(settled(STAIRS, (10, 20, 37, 0)), (10, 20, 30, 7))
        self.assertEqual(settled(STAIRS, (0, 17, 37, 0)), (4, 20, 30, 0))
        self.assertEqual(settled(STAIRS, (12, 25, 37, 1)), (10, 20, 30, 15))

    def test_still_waters_stay(self):
        self.assertEqual(settled(STAIRS, (10, 20, 30, 5)), (10, 20, 30, 5))
        self.assertEqual(settled(STAIRS, (-1, 0, 0, -5)), (-1, 0, 0, -5))

    def test_one_above_and_one_below(self):
        self.assertEqual(settled(STAIRS, (10, 20, 31, 0)), (10, 20, 30, 1))
        self.assertEqual(settled(STAIRS, (10, 20, 29, 0)), (10, 20, 29, 0))
        self.assertEqual(settled(STAIRS, (10, 19, 31, 0)), (10, 20, 30, 0))

    def test_a_vessel_below_nought_is_filled_up_first(self):
        self.assertEqual(settled([(5, 2), (5, 0)], (-10, 12, 0)), (-3, 5, 0))

    def test_weirs_to_unlike_vessels(self):
        weirs = [(5, 4), (5, 5), (5, 0), (5, 0)]
        self.assertEqual(settled(weirs, (4, 8, 6, 7, 0, 0)), (5, 5, 5, 5, 2, 3))

    def test_no_weirs(self):
        self.assertEqual(settled([], (5, 6)), (5, 6))
        self.assertEqual(settled([], ()), ())

    def test_many_reaches(self):
        many = 2000
        weirs = [(0, many)] + [(0, at - 1) for at in range(1, many)]
        self.assertEqual(settled(weirs, (1,) * many + (0,)), (0,) * many + (many,))
        self.assertEqual(spills(weirs, (1,) * many + (0,)), list(range(many, 0, -1)))

    def test_many_figures(self):
        self.assertEqual(settled([(1, 2), (LARGE, 0)], (0, 2 * LARGE, 0)), (1, LARGE, LARGE - 1))

    def test_same_as_spilling_all_from_the_last_to_the_first(self):
        source = random.Random(14)
        for _ in range(300):
            weirs = random_weirs(source, 5, 7)
            waters = random_waters(source, 7)
            one_by_one = waters
            for at in (4, 3, 2, 1, 0):
                one_by_one = spilled(weirs, one_by_one, at)
            self.assertEqual(settled(weirs, waters), one_by_one)
            self.assertIs(still(weirs, one_by_one), True)

    def test_tells_a_tuple_and_what_is_handed_in_stays(self):
        weirs = [(10, 3), (20, 0), (30, 1)]
        waters = (12, 25, 37, 1)
        self.assertIs(type(settled(weirs, waters)), tuple)
        self.assertIs(type(settled([], waters)), tuple)
        self.assertEqual(weirs, STAIRS)
        self.assertEqual(waters, (12, 25, 37, 1))

    def test_no_water_is_made_or_lost(self):
        source = random.Random(1)
        for _ in range(200):
            weirs = random_weirs(source, 4, 6)
            waters = random_waters(source, 6)
            self.assertEqual(total(settled(weirs, waters)), total(waters))
            self.assertEqual(total(spilled(weirs, waters, 2)), total(waters))
            self.assertEqual(total(spilled(weirs, waters, 2, 3)), total(waters))


class Spills(unittest.TestCase):
    def test_what_each_reach_gives_with_what_came_from_above(self):
        self.assertEqual(spills(STAIRS, (12, 25, 37, 1)), [14, 12, 7])
        self.assertEqual(spills(STAIRS, (0, 17, 37, 0)), [0, 4, 7])

    def test_still_waters_give_nothing(self):
        self.assertEqual(spills(STAIRS, (10, 20, 30, 0)), [0, 0, 0])
        self.assertEqual(spills(STAIRS, (-1, 19, 29, 9)), [0, 0, 0])
        self.assertEqual(spills([], (4, 5)), [])

    def test_tells_a_list_that_is_the_askers_own(self):
        weirs = [(10, 3), (20, 0), (30, 1)]
        waters = (12, 25, 37, 1)
        told = spills(weirs, waters)
        self.assertIs(type(told), list)
        told[0] = 99
        told.append(7)
        self.assertEqual(spills(weirs, waters), [14, 12, 7])
        self.assertEqual(weirs, STAIRS)
        self.assertEqual(waters, (12, 25, 37, 1))


class AnyOrder(unittest.TestCase):
    def test_every_order_of_all_or_parts_comes_to_the_same(self):
        for waters in itertools.product((9, 13), (18, 24), (30, 37), (0,)):
            for order in itertools.permutations(range(3)):
                for mosts in itertools.product((None, 1, 3), repeat=3):
                    told, given = spilled_anyhow(STAIRS, waters, list(zip(order, mosts)))
                    self.assertEqual(told, settled(STAIRS, waters))
                    self.assertEqual(given, spills(STAIRS, waters))

    def test_random_orders_and_parts_come_to_the_same(self):
        source = random.Random(15)
        for _ in range(200):
            weirs = random_weirs(source, 5, 7)
            waters = random_waters(source, 7)
            picks = [(source.randrange(5), source.choice((None, 0, 1, 4))) for _ in range(12)]
            picks += [(at, source.choice((None, 2, 7))) for at in range(5)]
            told, given = spilled_anyhow(weirs, waters, picks)
            self.assertEqual(told, settled(weirs, waters))
            self.assertEqual(given, spills(weirs, waters))


class Wetter(unittest.TestCase):
    def assert_wetter(self, weirs, more, less):
        behind = zip(settled(weirs, more), settled(weirs, less))
        self.assertTrue(all(one >= other for one, other in behind), (weirs, more, less))
        given = zip(spills(weirs, more), spills(weirs, less))
        self.assertTrue(all(one >= other for one, other in given), (weirs, more, less))

    def test_each_small_water_that_holds_more(self):
        weirs = [(1, 2), (2, 0)]
        small = list(itertools.product(range(-1, 4), repeat=3))
        for more, less in itertools.product(small, repeat=2):
            if all(one >= other for one, other in zip(more, less)):
                self.assert_wetter(weirs, more, less)

    def test_random_waters_that_hold_more(self):
        source = random.Random(16)
        for _ in range(300):
            weirs = random_weirs(source, 5, 7)
            less = random_waters(source, 7)
            more = tuple(water + source.choice((0, 0, 1, 30)) for water in less)
            self.assert_wetter(weirs, more, less)


if __name__ == "__main__":
    unittest.main()
