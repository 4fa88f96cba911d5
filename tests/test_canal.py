"""4.1 to 4.3 (and 0.3 to 0.5, 1.4): reaches, a canal, the numbers of its vessels, and its waters at the beginning."""

import unittest

from lockhouse.canal import Canal, Reach
from lockhouse.errors import Unknown
from lockhouse.kinds import BasinLock, PlainLock, PumpLock
from lockhouse.vessels import total
from lockhouse.weirs import spills, still
from tests.helpers import GREATEST, some_canals, told


def stairs():
    """Three reaches, each with its weir to the one below, and a lock of each kind."""
    reaches = [
        Reach("low", 5, 10, 2, 8, -1),
        Reach("mid", 6, 20, 3, 15, 0),
        Reach("high", 7, 30, 4, 25, 1),
    ]
    locks = [PlainLock("gate", 1, 0, 4), BasinLock("mill", 2, 1, 6, 3), PumpLock("wheel", 2, 0, 9, 9)]
    return Canal(reaches, locks, [[(1, 2), (3, 4), (5, 6)], [(0, 0), (7, 0), (0, 8)]])


def one_reach(least=0, crest=10, water=4):
    return Canal([Reach("pond", least, crest, 1, water, -1)], [])


def of_size(reaches, locks):
    named = [Reach("abcdefghijkl"[at], 0, 9, 1, 0, -1) for at in range(reaches)]
    return Canal(named, [PlainLock("mnopqrstuvwx"[k], 1, 0, 1) for k in range(locks)])


class Reaches(unittest.TestCase):
    def test_values(self):
        reach = Reach("pond", 5, 10, 3, 8, -1)
        self.assertEqual((reach.name, reach.least, reach.crest), ("pond", 5, 10))
        self.assertEqual((reach.berths, reach.water, reach.target), (3, 8, -1))

    def test_water_below_the_least_and_above_the_crest(self):
        self.assertEqual(Reach("pond", 5, 10, 3, 0, -1).water, 0)
        self.assertEqual(Reach("pond", 5, 10, 3, 99, -1).water, 99)

    def test_a_crest_as_low_as_the_least_and_the_greatest_numbers(self):
        reach = Reach("pond", GREATEST, GREATEST, 9, GREATEST, 7)
        self.assertEqual((reach.least, reach.crest, reach.water, reach.target), (GREATEST, GREATEST, GREATEST, 7))

    def test_two_reaches_keep_their_values_apart(self):
        first = Reach("pond", 5, 10, 3, 8, -1)
        Reach("pool", 1, 2, 4, 6, 0)
        self.assertEqual((first.name, first.least, first.crest), ("pond", 5, 10))


class Values(unittest.TestCase):
    def test_what_was_handed_in(self):
        reaches = [Reach("low", 5, 10, 2, 8, -1), Reach("high", 6, 20, 3, 15, 0)]
        locks = [PlainLock("gate", 1, 0, 4)]
        canal = Canal(reaches, locks, [[(1, 2), (3, 4)]])
        self.assertEqual(canal.reaches, reaches)
        self.assertEqual(canal.locks, locks)
        self.assertEqual(canal.nights, [[(1, 2), (3, 4)]])

    def test_kinds_of_values(self):
        canal = stairs()
        for value in (canal.reaches, canal.locks, canal.nights, canal.nights[0], canal.nights[1]):
            self.assertIs(type(value), list)
        self.assertTrue(all(type(pair) is tuple for night in canal.nights for pair in night))

    def test_nights_left_out_none_and_empty(self):
        reaches = [Reach("pond", 0, 10, 1, 4, -1)]
        left_out = Canal(reaches, [])
        for canal in (left_out, Canal(reaches, [], None), Canal(reaches, [], []), Canal(reaches, [], nights=None)):
            self.assertEqual(canal.nights, [])
            self.assertIs(type(canal.nights), list)

    def test_nights_of_two_canals_without_any_are_not_one_list(self):
        first = one_reach()
        second = one_reach()
        first.nights.append([(1, 1)])
        self.assertEqual(second.nights, [])
        self.assertEqual(one_reach().nights, [])

    def test_arguments_by_name(self):
        canal = Canal(reaches=[Reach("pond", 0, 10, 1, 4, -1)], locks=[], nights=[[(1, 2)]])
        self.assertEqual(canal.nights, [[(1, 2)]])
        reach = Reach(name="pond", least=1, crest=2, berths=3, water=4, target=-1)
        self.assertEqual(told(Canal([reach], []))[0], (("pond", 1, 2, 3, 4, -1),))

    def test_more_than_the_bounds_is_not_refused_here(self):
        canal = Canal([Reach("pond", 0, 10, 1, 4, -1)] * 9, [PlainLock("gate", 1, 0, 4)] * 9, [[(0, 0)] * 9] * 7)
        self.assertEqual((len(canal.reaches), len(canal.locks), len(canal.nights)), (9, 9, 7))
        self.assertEqual(canal.many(), 29)


class Copies(unittest.TestCase):
    def handed(self):
        reaches = [Reach("low", 5, 10, 2, 8, -1), Reach("high", 6, 20, 3, 15, 0)]
        return reaches, [PlainLock("gate", 1, 0, 4)], [[(1, 2), (3, 4)], [(5, 6), (7, 8)]]

    def test_what_is_handed_in_stays_as_it_was(self):
        reaches, locks, nights = self.handed()
        kept = (list(reaches), list(locks), [list(night) for night in nights])
        canal = Canal(reaches, locks, nights)
        canal.start()
        canal.weirs()
        canal.reach_at("high")
        canal.full(canal.start(), 0)
        self.assertEqual((reaches, locks, nights), kept)

    def test_to_change_it_behind_that_changes_nothing_in_the_canal(self):
        reaches, locks, nights = self.handed()
        canal = Canal(reaches, locks, nights)
        ahead = (told(canal), canal.start(), canal.weirs(), canal.many())
        reaches.append(Reach("top", 0, 1, 1, 1, 0))
        reaches[0] = Reach("deep", 0, 1, 1, 99, -1)
        locks.clear()
        nights[0][1] = (99, 99)
        nights[1].clear()
        nights.pop()
        nights.append([(1, 1), (1, 1)])
        self.assertEqual((told(canal), canal.start(), canal.weirs(), canal.many()), ahead)
        self.assertEqual(canal.reach_at("low"), 0)

    def test_a_night_handed_in_twice_is_kept_as_two_lists(self):
        night = [(1, 2)]
        canal = Canal([Reach("pond", 0, 10, 1, 4, -1)], [], [night, night])
        canal.nights[0].append((3, 4))
        self.assertEqual(canal.nights[1], [(1, 2)])
        self.assertEqual(night, [(1, 2)])

    def test_the_lists_of_two_canals_made_of_the_same_lists(self):
        reaches, locks, nights = self.handed()
        first = Canal(reaches, locks, nights)
        second = Canal(first.reaches, first.locks, first.nights)
        first.reaches.pop()
        first.locks.pop()
        first.nights[0].pop()
        first.nights.pop()
        self.assertEqual(told(second), told(Canal(*self.handed())))

    def test_what_is_told_is_the_askers_own(self):
        canal = stairs()
        weirs = canal.weirs()
        weirs[0] = (0, 0)
        weirs.pop()
        self.assertEqual(canal.weirs(), [(10, 9), (20, 0), (30, 1)])
        self.assertEqual(canal.start(), stairs().start())


class Names(unittest.TestCase):
    def named(self, reaches, locks):
        made = [Reach(name, 0, 9, 1, 0, -1) for name in reaches]
        return Canal(made, [PlainLock(name, 1, 0, 1) for name in locks])

    def unknown(self, ask, name):
        with self.subTest(name=name):
            with self.assertRaises(Unknown) as caught:
                ask(name)
            self.assertIs(type(caught.exception), Unknown)

    def test_counted_from_nought_in_their_order(self):
        canal = stairs()
        self.assertEqual([canal.reach_at(name) for name in ("low", "mid", "high")], [0, 1, 2])
        self.assertEqual([canal.lock_at(name) for name in ("gate", "mill", "wheel")], [0, 1, 2])

    def test_names_that_are_beginnings_or_ends_of_one_another(self):
        names = ["millpond", "mill", "pond", "m", "mi", "millpon", "d", "illpon"]
        canal = self.named(names, list(reversed(names)))
        for place, name in enumerate(names):
            self.assertEqual(canal.reach_at(name), place)
            self.assertEqual(canal.lock_at(name), 7 - place)
        for name in ("millp", "ill", "lpond", "millponds", "mm", "p"):
            self.unknown(canal.reach_at, name)
            self.unknown(canal.lock_at, name)

    def test_a_lock_called_like_a_reach_and_one_called_sea(self):
        canal = self.named(["mill", "pond"], ["sea", "pond", "gate", "mill"])
        self.assertEqual((canal.reach_at("mill"), canal.lock_at("mill")), (0, 3))
        self.assertEqual((canal.reach_at("pond"), canal.lock_at("pond")), (1, 1))
        self.assertEqual(canal.lock_at("sea"), 0)
        self.unknown(canal.reach_at, "sea")

    def test_a_name_that_none_has(self):
        canal = stairs()
        for name in ("", "top", "sea", "sky", "Low", "low ", " low", "low\n", "0", "-1", "lowlow"):
            self.unknown(canal.reach_at, name)
        for name in ("", "lock", "sea", "Gate", "gate ", " gate", "mil", "0"):
            self.unknown(canal.lock_at, name)

    def test_a_locks_name_asked_as_a_reachs_and_the_other_way_round(self):
        canal = stairs()
        for name in ("gate", "mill", "wheel"):
            self.unknown(canal.reach_at, name)
        for name in ("low", "mid", "high"):
            self.unknown(canal.lock_at, name)

    def test_a_canal_without_a_lock(self):
        self.unknown(one_reach().lock_at, "pond")
        self.unknown(one_reach().lock_at, "")

    def test_a_refusal_changes_nothing(self):
        canal = stairs()
        ahead = (told(canal), canal.start(), canal.weirs())
        self.unknown(canal.reach_at, "top")
        self.unknown(canal.lock_at, "top")
        self.assertEqual((told(canal), canal.start(), canal.weirs()), ahead)
        self.assertEqual(told(canal), told(stairs()))


class Vessels(unittest.TestCase):
    def test_three_reaches_and_three_locks(self):
        canal = stairs()
        self.assertEqual([canal.chamber(k) for k in range(3)], [3, 4, 5])
        self.assertEqual([canal.basin(k) for k in range(3)], [6, 7, 8])
        self.assertEqual((canal.sea(), canal.sky(), canal.many()), (9, 10, 11))

    def test_one_reach_and_no_lock(self):
        canal = one_reach()
        self.assertEqual((canal.sea(), canal.sky(), canal.many()), (1, 2, 3))

    def test_eight_reaches_and_eight_locks(self):
        canal = of_size(8, 8)
        self.assertEqual((canal.chamber(0), canal.chamber(7)), (8, 15))
        self.assertEqual((canal.basin(0), canal.basin(7)), (16, 23))
        self.assertEqual((canal.sea(), canal.sky(), canal.many()), (24, 25, 26))

    def test_every_size(self):
        for reaches in range(1, 9):
            for locks in range(9):
                with self.subTest(reaches=reaches, locks=locks):
                    canal = of_size(reaches, locks)
                    self.assertEqual([canal.chamber(k) for k in range(locks)], [reaches + k for k in range(locks)])
                    self.assertEqual([canal.basin(k) for k in range(locks)],
                                     [reaches + locks + k for k in range(locks)])
                    self.assertEqual(canal.sea(), reaches + 2 * locks)
                    self.assertEqual(canal.sky(), reaches + 2 * locks + 1)
                    self.assertEqual(canal.many(), reaches + 2 * locks + 2)

    def test_a_basin_for_every_lock_also_for_one_that_has_none(self):
        for lock in (PlainLock("gate", 1, 0, 4), BasinLock("gate", 1, 0, 4, 2), PumpLock("gate", 1, 0, 4, 2)):
            canal = Canal([Reach("low", 0, 9, 1, 0, -1), Reach("high", 0, 9, 1, 0, 0)], [lock])
            self.assertEqual((canal.chamber(0), canal.basin(0), canal.sea()), (2, 3, 4))

    def test_whole_numbers_are_told(self):
        canal = stairs()
        numbers = (canal.many(), canal.chamber(0), canal.basin(0), canal.sea(), canal.sky(), canal.reach_at("low"))
        for number in numbers + (canal.lock_at("gate"),):
            self.assertIs(type(number), int)


class Weirs(unittest.TestCase):
    def test_crests_and_the_vessels_to_which_they_lead(self):
        self.assertEqual(stairs().weirs(), [(10, 9), (20, 0), (30, 1)])
        self.assertEqual(one_reach().weirs(), [(10, 1)])

    def test_to_the_sea_and_to_any_reach_ahead(self):
        reaches = [
            Reach("a", 0, 1, 1, 0, -1), Reach("b", 0, 2, 1, 0, -1),
            Reach("c", 0, 3, 1, 0, 0), Reach("d", 0, 4, 1, 0, 1), Reach("e", 0, 5, 1, 0, -1),
        ]
        canal = Canal(reaches, [PlainLock("gate", 1, 0, 4)])
        self.assertEqual(canal.weirs(), [(1, 7), (2, 7), (3, 0), (4, 1), (5, 7)])

    def test_a_list_of_pairs(self):
        weirs = stairs().weirs()
        self.assertIs(type(weirs), list)
        self.assertTrue(all(type(pair) is tuple and len(pair) == 2 for pair in weirs))

    def test_a_pair_for_each_reach_to_one_ahead_or_to_no_reach(self):
        for canal in some_canals(200):
            weirs = canal.weirs()
            self.assertEqual([crest for crest, target in weirs], [reach.crest for reach in canal.reaches])
            for at, (crest, target) in enumerate(weirs):
                self.assertTrue(0 <= target < at or target == canal.sea())
                self.assertEqual(target, canal.sea() if canal.reaches[at].target == -1 else canal.reaches[at].target)


class Start(unittest.TestCase):
    def test_each_reach_has_its_water_and_all_else_nought(self):
        self.assertEqual(stairs().start(), (8, 15, 25, 0, 0, 0, 0, 0, 0, 0, 0))
        self.assertEqual(one_reach().start(), (4, 0, 0))
        self.assertEqual(of_size(8, 8).start(), (0,) * 26)

    def test_less_than_the_least(self):
        self.assertEqual(one_reach(least=5, crest=10, water=4).start(), (4, 0, 0))
        self.assertEqual(one_reach(least=10, crest=10, water=0).start(), (0, 0, 0))

    def test_at_the_crest_and_above_it(self):
        self.assertEqual(one_reach(crest=10, water=10).start(), (10, 0, 0))
        self.assertEqual(one_reach(crest=10, water=11).start(), (10, 1, 0))
        self.assertEqual(one_reach(crest=0, water=GREATEST).start(), (0, GREATEST, 0))

    def test_from_reach_to_reach_down_to_the_sea(self):
        reaches = [
            Reach("low", 0, 10, 1, 10, -1), Reach("mid", 0, 20, 1, 20, 0), Reach("high", 0, 30, 1, 37, 1),
        ]
        canal = Canal(reaches, [PlainLock("gate", 1, 0, 4)])
        self.assertEqual(canal.start(), (10, 20, 30, 0, 0, 7, 0))

    def test_what_spills_stays_where_there_is_room(self):
        reaches = [
            Reach("low", 0, 10, 1, 4, -1), Reach("mid", 0, 20, 1, 18, 0), Reach("high", 0, 30, 1, 37, 1),
        ]
        self.assertEqual(Canal(reaches, []).start(), (9, 20, 30, 0, 0))

    def test_two_reaches_into_one(self):
        reaches = [
            Reach("low", 0, 10, 1, 8, -1), Reach("left", 0, 20, 1, 21, 0), Reach("right", 0, 30, 1, 34, 0),
        ]
        self.assertEqual(Canal(reaches, []).start(), (10, 20, 30, 3, 0))

    def test_in_every_canal_the_waters_are_settled_and_none_is_lost(self):
        for canal in some_canals(200):
            waters = canal.start()
            self.assertIs(type(waters), tuple)
            self.assertEqual(len(waters), canal.many())
            self.assertTrue(still(canal.weirs(), waters))
            self.assertEqual(total(waters), sum(reach.water for reach in canal.reaches))
            self.assertEqual(set(waters[len(canal.reaches):canal.sea()]) | {waters[canal.sky()]}, {0})

    def test_every_reach_gave_what_settling_asks(self):
        for canal in some_canals(200):
            reaches = len(canal.reaches)
            first = tuple(reach.water for reach in canal.reaches) + (0,) * (canal.many() - reaches)
            given = spills(canal.weirs(), first)
            got = [sum(given[at] for at in range(reaches) if canal.reaches[at].target == to) for to in range(reaches)]
            self.assertEqual(canal.start()[:reaches], tuple(first[at] + got[at] - given[at] for at in range(reaches)))

    def test_asked_twice_it_tells_the_same(self):
        for canal in some_canals(50):
            ahead = told(canal)
            self.assertEqual(canal.start(), canal.start())
            self.assertEqual(told(canal), ahead)


class FullChambers(unittest.TestCase):
    def test_where_it_holds_something(self):
        canal = stairs()
        waters = (1, 1, 1, 4, 0, 9, 7, 7, 7, 1, -1)
        self.assertEqual([canal.full(waters, k) for k in range(3)], [True, False, True])

    def test_none_at_the_beginning(self):
        for canal in some_canals(50):
            for k in range(len(canal.locks)):
                self.assertIs(canal.full(canal.start(), k), False)

    def test_each_chamber_by_itself(self):
        canal = of_size(8, 8)
        for k in range(8):
            waters = tuple(1 if vessel == canal.chamber(k) else 0 for vessel in range(canal.many()))
            self.assertEqual([canal.full(waters, other) for other in range(8)], [other == k for other in range(8)])

    def test_true_or_false_is_told_whatever_else_is_wet(self):
        canal = stairs()
        self.assertIs(canal.full((9, 9, 9, 0, 1, GREATEST, 9, 9, 9, 9, -9), 0), False)
        self.assertIs(canal.full((9, 9, 9, 0, 1, GREATEST, 9, 9, 9, 9, -9), 1), True)
        self.assertIs(canal.full((0, 0, 0, 0, 1, GREATEST, 0, 0, 0, 0, 0), 2), True)


if __name__ == "__main__":
    unittest.main()
