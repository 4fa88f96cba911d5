"""5.3 to 5.6 (and 0.1, 0.3, 0.5): lets, nights, all deeds that can be done, and what holds of every deed."""

import unittest

from lockhouse.boats import begun, rank, steps_left
from lockhouse.canal import Canal, Reach
from lockhouse.deeds import after, may, pours, why_not
from lockhouse.errors import NotNow
from lockhouse.kinds import BasinLock, PlainLock, PumpLock
from lockhouse.nights import after_night, night_pours
from lockhouse.vessels import poured_all, total
from lockhouse.weirs import still
from tests.helpers import GREATEST, some_moves, some_worlds, told

NIGHT = ("night",)

# The vessels of `ladder`: four reaches, three chambers, three basins, the sea, the sky.
SEA = 10
SKY = 11

NIGHTS = [[(1, 0), (0, 0), (0, 0), (0, 2)], [(0, 0), (0, 60), (0, 0), (90, 0)]]


def ladder(nights=NIGHTS, berths=1):
    """Four reaches, each of which spills to the one ahead of it, and a lock of each kind from one to the next."""
    reaches = [Reach(name, 5, 100, berths, 50, at - 1) for at, name in enumerate(("a", "b", "c", "d"))]
    locks = [PlainLock("p", 1, 0, 10), BasinLock("q", 2, 1, 10, 4), PumpLock("r", 3, 2, 10, 3)]
    return Canal(reaches, locks, nights)


def lying_at(reaches=(50, 50, 50, 50), chambers=(0, 0, 0), basin=0, sea=0, sky=0):
    return tuple(reaches) + tuple(chambers) + (0, basin, 0) + (sea, sky)


class Let(unittest.TestCase):
    def let(self, k, waters, wanted, behind, canal=None):
        canal = canal or ladder()
        state = (1, waters, ())
        self.assertEqual(why_not(canal, [], state, ("let", k)), "")
        self.assertEqual(pours(canal, [], state, ("let", k)), wanted)
        self.assertEqual(after(canal, [], state, ("let", k)), (1, behind, ()))

    def test_a_plain_lock(self):
        self.let(0, lying_at(chambers=(10, 0, 0)), [(4, 0, 10)], lying_at((60, 50, 50, 50)))

    def test_a_basin_lock_whose_basin_holds_nothing_some_and_all(self):
        full = (0, 10, 0)
        self.let(1, lying_at(chambers=full), [(5, 8, 4), (5, 1, 6)], lying_at((50, 56, 50, 50), basin=4))
        self.let(1, lying_at(chambers=full, basin=1), [(5, 8, 3), (5, 1, 7)], lying_at((50, 57, 50, 50), basin=4))
        self.let(1, lying_at(chambers=full, basin=4), [(5, 1, 10)], lying_at((50, 60, 50, 50), basin=4))

    def test_a_basin_as_great_as_the_chamber(self):
        reaches = [Reach("a", 0, 99, 1, 50, -1), Reach("b", 0, 99, 1, 50, 0)]
        canal = Canal(reaches, [BasinLock("q", 1, 0, 10, 10)])
        self.let(0, (50, 50, 10, 0, 0, 0), [(2, 3, 10)], (50, 50, 0, 10, 0, 0), canal)

    def test_a_pump_lock(self):
        self.let(2, lying_at(chambers=(0, 0, 10)), [(6, 2, 10)], lying_at((50, 50, 60, 50)))

    def test_other_chambers_stay(self):
        self.let(0, lying_at(chambers=(10, 10, 10), basin=2), [(4, 0, 10)],
                 lying_at((60, 50, 50, 50), chambers=(0, 10, 10), basin=2))

    def test_a_reach_beneath_its_least_gets_all_the_same(self):
        self.let(0, lying_at((0, 0, 0, 0), (10, 0, 0)), [(4, 0, 10)], lying_at((10, 0, 0, 0)))

    def test_the_let_spills_down_to_the_sea(self):
        self.let(2, lying_at((100, 98, 95, 50), (0, 0, 10)), [(6, 2, 10), (2, 1, 5), (1, 0, 3), (0, SEA, 3)],
                 lying_at((100, 100, 100, 50), sea=3))

    def test_an_empty_chamber(self):
        for k in range(3):
            full = tuple(0 if at == k else 10 for at in range(3))
            for chambers in ((0, 0, 0), full):
                state = (0, lying_at(chambers=chambers, basin=4), ())
                self.assertEqual(why_not(ladder(), [], state, ("let", k)), "empty")
                for asked in (pours, after):
                    with self.assertRaises(NotNow) as caught:
                        asked(ladder(), [], state, ("let", k))
                    self.assertIs(type(caught.exception), NotNow)

    def test_boats_and_nights_do_not_matter(self):
        ways = [(0, ((0, "up"), (0, "down")))] * 3
        for day, places in ((0, (0, 0, 0)), (2, (1, 1, 1)), (9, (2, 2, 2))):
            state = (day, lying_at(chambers=(10, 0, 0)), places)
            self.assertEqual(after(ladder(), ways, state, ("let", 0)), (day, lying_at((60, 50, 50, 50)), places))

    def test_the_greatest_room(self):
        canal = Canal([Reach("a", 0, 5, 1, 0, -1), Reach("b", 0, 5, 1, 0, 0)], [PlainLock("p", 1, 0, GREATEST)])
        self.let(0, (0, 0, GREATEST, 0, 0, 0), [(2, 0, GREATEST), (0, 4, GREATEST - 5)], (5, 0, 0, 0, GREATEST - 5, 0),
                 canal)


class Night(unittest.TestCase):
    def test_the_night_that_is_foretold_with_the_days_number(self):
        canal = ladder()
        first = (0, lying_at(), (0,))
        self.assertEqual(pours(canal, [], first, NIGHT), [(3, SKY, 2), (SKY, 0, 1)])
        self.assertEqual(after(canal, [], first, NIGHT), (1, lying_at((51, 50, 50, 48), sky=1), (0,)))
        second = (1, lying_at(), (0,))
        wanted = [(1, SKY, 50), (SKY, 3, 90), (3, 2, 40)]
        self.assertEqual(pours(canal, [], second, NIGHT), wanted)
        self.assertEqual(after(canal, [], second, NIGHT), (2, lying_at((50, 0, 90, 100), sky=-40), (0,)))

    def test_as_the_weather_of_that_day_tells(self):
        for canal, ways in some_worlds(40):
            for day, weather in enumerate(canal.nights):
                state = (day, canal.start(), (0,) * len(ways))
                self.assertEqual(why_not(canal, ways, state, NIGHT), "")
                self.assertEqual(pours(canal, ways, state, NIGHT), night_pours(canal, state, weather))
                self.assertEqual(after(canal, ways, state, NIGHT), after_night(canal, state, weather))

    def test_a_night_of_nothing(self):
        canal = ladder([[(0, 0)] * 4])
        self.assertEqual(pours(canal, [], begun(canal, []), NIGHT), [])
        self.assertEqual(after(canal, [], begun(canal, []), NIGHT), (1, canal.start(), ()))

    def test_over_behind_the_last_night(self):
        for canal, day in ((ladder(), 2), (ladder(), 3), (ladder([]), 0), (ladder(None), 0), (ladder(NIGHTS * 3), 6)):
            state = (day, lying_at(), ())
            self.assertEqual(why_not(canal, [], state, NIGHT), "over")
            for asked in (pours, after):
                with self.assertRaises(NotNow) as caught:
                    asked(canal, [], state, NIGHT)
                self.assertIs(type(caught.exception), NotNow)

    def test_nights_that_are_left_out_of_a_canal(self):
        canal = Canal([Reach("a", 0, 10, 1, 5, -1)], [])
        self.assertEqual(why_not(canal, [], begun(canal, []), NIGHT), "over")
        self.assertEqual(may(canal, [], begun(canal, [])), [])

    def test_the_last_night_can_be_done(self):
        self.assertEqual(why_not(ladder(), [], (1, lying_at(), ()), NIGHT), "")
        self.assertEqual(why_not(ladder(NIGHTS * 3), [], (5, lying_at(), ()), NIGHT), "")


class May(unittest.TestCase):
    WAYS = [(0, ((0, "up"),)), (1, ((0, "down"), (0, "up"))), (3, ((2, "down"),)), (2, ((2, "up"),))]

    def test_passes_then_lets_then_the_night(self):
        state = (0, lying_at(chambers=(10, 10, 10)), (0, 0, 0, 0))
        passes = [("pass", 0), ("pass", 2), ("pass", 3)]
        lets = [("let", 0), ("let", 1), ("let", 2)]
        self.assertEqual(may(ladder(), self.WAYS, state), passes + lets + [NIGHT])

    def test_what_cannot_be_done_is_left_out(self):
        state = (0, lying_at(chambers=(0, 10, 0)), (1, 0, 0, 0))
        wanted = [("pass", 1), ("pass", 2), ("pass", 3), ("let", 1), NIGHT]
        self.assertEqual(may(ladder(), self.WAYS, state), wanted)
        self.assertEqual(may(ladder(), self.WAYS, (2,) + state[1:]), wanted[:-1])
        dry = (0, lying_at((50, 5, 5, 5), (0, 10, 0)), (1, 0, 0, 0))
        self.assertEqual(may(ladder(), self.WAYS, dry), [("let", 1), NIGHT])

    def test_nothing_can_be_done(self):
        self.assertEqual(may(ladder(), self.WAYS, (2, lying_at((0, 0, 0, 0)), (0, 0, 0, 0))), [])
        self.assertEqual(may(ladder(), self.WAYS, (2, lying_at(), (1, 2, 1, 1))), [])

    def test_no_boats(self):
        self.assertEqual(may(ladder(), [], (0, lying_at(chambers=(0, 0, 10)), ())), [("let", 2), NIGHT])
        self.assertEqual(may(ladder(), [], (2, lying_at(), ())), [])

    def test_one_reach_and_no_lock(self):
        reach = Reach("a", 0, 10, 1, 5, -1)
        self.assertEqual(may(Canal([reach], [], [[(0, 0)]]), [], (0, (5, 0, 0), ())), [NIGHT])
        self.assertEqual(may(Canal([reach], [], [[(0, 0)]]), [], (1, (5, 0, 0), ())), [])
        self.assertEqual(may(Canal([reach], []), [], (0, (5, 0, 0), ())), [])

    def test_nine_boats(self):
        ways = [(0, ((0, "up"),))] * 9
        self.assertEqual(may(ladder([]), ways, begun(ladder([]), ways)), [("pass", boat) for boat in range(9)])

    def test_just_what_can_be_done(self):
        for canal, ways, state, deed, behind in some_moves(60):
            every = [("pass", boat) for boat in range(len(ways))]
            every += [("let", k) for k in range(len(canal.locks))] + [NIGHT]
            able = may(canal, ways, state)
            self.assertEqual(able, [one for one in every if why_not(canal, ways, state, one) == ""])
            for one in every:
                if one in able:
                    pours(canal, ways, state, one)
                else:
                    self.assertIn(why_not(canal, ways, state, one), ("home", "berth", "water", "empty", "over"))
                    self.assertRaises(NotNow, pours, canal, ways, state, one)
                    self.assertRaises(NotNow, after, canal, ways, state, one)

    def test_a_list_of_tuples_the_askers_own(self):
        canal = ladder()
        state = begun(canal, self.WAYS)
        able = may(canal, self.WAYS, state)
        self.assertIs(type(able), list)
        self.assertTrue(all(type(deed) is tuple for deed in able))
        kept = list(able)
        able.clear()
        self.assertEqual(may(canal, self.WAYS, state), kept)
        self.assertGreater(len(kept), 0)


class EveryDeed(unittest.TestCase):
    def test_no_water_is_made_and_none_is_lost(self):
        for canal, ways, state, deed, behind in some_moves(120):
            self.assertEqual(total(behind[1]), total(canal.start()))

    def test_no_reach_above_its_crest_and_no_vessel_but_the_sky_below_nought(self):
        for canal, ways, state, deed, behind in some_moves(120):
            self.assertTrue(still(canal.weirs(), behind[1]))
            self.assertGreaterEqual(min(behind[1][:-1]), 0)
            self.assertEqual(len(behind[1]), canal.many())

    def test_each_chamber_is_full_or_empty_and_each_basin_holds_what_fits(self):
        for canal, ways, state, deed, behind in some_moves(120):
            for k, lock in enumerate(canal.locks):
                self.assertIn(behind[1][canal.chamber(k)], (0, lock.room))
                self.assertLessEqual(behind[1][canal.basin(k)], lock.extra() if lock.kind() == "basin" else 0)

    def test_each_deed_makes_the_rank_less(self):
        for canal, ways, state, deed, behind in some_moves(120):
            self.assertLess(rank(canal, ways, behind), rank(canal, ways, state))
            self.assertGreaterEqual(rank(canal, ways, behind), 0)

    def test_day_and_places(self):
        for canal, ways, state, deed, behind in some_moves(60):
            self.assertEqual(behind[0] - state[0], 1 if deed == NIGHT else 0)
            self.assertEqual(steps_left(ways, state) - steps_left(ways, behind), 1 if deed[0] == "pass" else 0)
            moved = [boat for boat in range(len(ways)) if behind[2][boat] != state[2][boat]]
            self.assertEqual(moved, [deed[1]] if deed[0] == "pass" else [])

    def test_the_pours_lead_to_the_waters_behind_and_none_is_of_nought(self):
        for canal, ways, state, deed, behind in some_moves(120):
            done = pours(canal, ways, state, deed)
            self.assertEqual(poured_all(state[1], done), behind[1])
            self.assertTrue(all(amount > 0 for source, target, amount in done))

    def test_the_weirs_come_last_the_last_reach_first(self):
        for canal, ways, state, deed, behind in some_moves(120):
            weirs = canal.weirs()
            spilled = [source for source, target, amount in pours(canal, ways, state, deed)
                       if source < len(weirs) and target == weirs[source][1]]
            self.assertEqual(spilled, sorted(set(spilled), reverse=True))
            done = pours(canal, ways, state, deed)
            self.assertEqual([pour[0] for pour in done[len(done) - len(spilled):]], spilled)

    def test_kinds(self):
        for canal, ways, state, deed, behind in some_moves(20):
            done = pours(canal, ways, state, deed)
            self.assertIs(type(done), list)
            self.assertTrue(all(type(pour) is tuple for pour in done))
            self.assertTrue(all(type(part) is int for pour in done for part in pour))
            self.assertEqual([type(behind)] + [type(part) for part in behind], [tuple, int, tuple, tuple])
            self.assertTrue(all(type(part) is int for part in behind[1] + behind[2]))
            self.assertIs(type(why_not(canal, ways, state, deed)), str)

    def test_the_pours_told_are_the_askers_own(self):
        canal = ladder()
        state = (0, lying_at(chambers=(10, 10, 10)), ())
        for deed in (("let", 1), NIGHT):
            kept = pours(canal, [], state, deed)
            pours(canal, [], state, deed).append((0, 1, 2))
            self.assertEqual(pours(canal, [], state, deed), kept)
        self.assertEqual(canal.nights, NIGHTS)

    def test_what_is_handed_in_stays_as_it_was(self):
        canal = ladder()
        ways = list(May.WAYS)
        state = begun(canal, ways)
        for deed in (("pass", 0), ("pass", 1), ("let", 0), NIGHT):
            why_not(canal, ways, state, deed)
            may(canal, ways, state)
            for asked in (pours, after):
                try:
                    asked(canal, ways, state, deed)
                except NotNow:
                    pass
        self.assertEqual(ways, May.WAYS)
        self.assertEqual(state, (0, lying_at(), (0, 0, 0, 0)))
        self.assertEqual(told(canal), told(ladder()))


if __name__ == "__main__":
    unittest.main()
