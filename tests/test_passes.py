"""5.3, 5.4 and 5.5 (and 2.6), as far as they speak of passes: locks of all kinds, wanting berths and wanting water."""

import itertools
import unittest

from lockhouse.canal import Canal, Reach
from lockhouse.chamber import Chamber
from lockhouse.deeds import after, pours, why_not
from lockhouse.errors import NotNow, Short
from lockhouse.kinds import BasinLock, PlainLock, PumpLock
from lockhouse.passing import passing, work
from lockhouse.weirs import settled
from tests.helpers import EACH_STAND, GREATEST, LARGE, every_small_lock, some_moves

# The vessels of `flight`.
LOW, HIGH, CHAMBER, BASIN, SEA, SKY = range(6)

PLAIN = PlainLock("p", HIGH, LOW, 10)
SAVING = BasinLock("q", HIGH, LOW, 10, 4)
WHOLE = BasinLock("q", HIGH, LOW, 10, 10)
PUMP = PumpLock("r", HIGH, LOW, 10, 3)
LIFTS_ALL = PumpLock("r", HIGH, LOW, 10, 10)

WAYS = [(LOW, ((0, "up"),)), (HIGH, ((0, "down"),))]
UP = ("pass", 0)
DOWN = ("pass", 1)


def flight(lock, least=(0, 0), crest=(1000, 1000), berths=(1, 1)):
    """A low reach and a high one, which spills to it, and one lock between them."""
    names = ("low", "high")
    return Canal([Reach(names[at], least[at], crest[at], berths[at], 0, at - 1) for at in (0, 1)], [lock])


def lying_at(low, high, chamber=0, basin=0, places=(0, 0)):
    return (0, (low, high, chamber, basin, 0, 0), places)


class Poured(unittest.TestCase):
    def poured(self, lock, state, deed, wanted, behind):
        canal = flight(lock)
        self.assertEqual(why_not(canal, WAYS, state, deed), "")
        self.assertEqual(pours(canal, WAYS, state, deed), wanted)
        places = (1, 0) if deed == UP else (0, 1)
        self.assertEqual(after(canal, WAYS, state, deed), lying_at(*behind, places=places))

    def test_plain_up(self):
        self.poured(PLAIN, lying_at(50, 60), UP, [(HIGH, CHAMBER, 10)], (50, 50, 10, 0))
        self.poured(
            PLAIN, lying_at(50, 60, 10), UP, [(CHAMBER, LOW, 10), (HIGH, CHAMBER, 10)], (60, 50, 10, 0),
        )

    def test_plain_down(self):
        self.poured(
            PLAIN, lying_at(50, 60), DOWN, [(HIGH, CHAMBER, 10), (CHAMBER, LOW, 10)], (60, 50, 0, 0),
        )
        self.poured(PLAIN, lying_at(50, 60, 10), DOWN, [(CHAMBER, LOW, 10)], (60, 60, 0, 0))

    def test_basin_up_from_an_empty_chamber(self):
        self.poured(SAVING, lying_at(50, 60), UP, [(HIGH, CHAMBER, 10)], (50, 50, 10, 0))
        self.poured(
            SAVING, lying_at(50, 60, 0, 3), UP, [(BASIN, CHAMBER, 3), (HIGH, CHAMBER, 7)], (50, 53, 10, 0),
        )
        self.poured(
            SAVING, lying_at(50, 60, 0, 4), UP, [(BASIN, CHAMBER, 4), (HIGH, CHAMBER, 6)], (50, 54, 10, 0),
        )
        self.poured(WHOLE, lying_at(50, 60, 0, 10), UP, [(BASIN, CHAMBER, 10)], (50, 60, 10, 0))

    def test_basin_up_from_a_full_chamber(self):
        self.poured(
            SAVING, lying_at(50, 60, 10), UP,
            [(CHAMBER, BASIN, 4), (CHAMBER, LOW, 6), (BASIN, CHAMBER, 4), (HIGH, CHAMBER, 6)], (56, 54, 10, 0),
        )
        self.poured(
            SAVING, lying_at(50, 60, 10, 1), UP,
            [(CHAMBER, BASIN, 3), (CHAMBER, LOW, 7), (BASIN, CHAMBER, 4), (HIGH, CHAMBER, 6)], (57, 54, 10, 0),
        )
        self.poured(
            SAVING, lying_at(50, 60, 10, 4), UP,
            [(CHAMBER, LOW, 10), (BASIN, CHAMBER, 4), (HIGH, CHAMBER, 6)], (60, 54, 10, 0),
        )
        self.poured(
            WHOLE, lying_at(50, 60, 10), UP, [(CHAMBER, BASIN, 10), (BASIN, CHAMBER, 10)], (50, 60, 10, 0),
        )

    def test_basin_down_from_an_empty_chamber(self):
        self.poured(
            SAVING, lying_at(50, 60), DOWN,
            [(HIGH, CHAMBER, 10), (CHAMBER, BASIN, 4), (CHAMBER, LOW, 6)], (56, 50, 0, 4),
        )
        self.poured(
            SAVING, lying_at(50, 60, 0, 3), DOWN,
            [(BASIN, CHAMBER, 3), (HIGH, CHAMBER, 7), (CHAMBER, BASIN, 4), (CHAMBER, LOW, 6)], (56, 53, 0, 4),
        )
        self.poured(
            SAVING, lying_at(50, 60, 0, 4), DOWN,
            [(BASIN, CHAMBER, 4), (HIGH, CHAMBER, 6), (CHAMBER, BASIN, 4), (CHAMBER, LOW, 6)], (56, 54, 0, 4),
        )
        self.poured(
            WHOLE, lying_at(50, 60, 0, 10), DOWN, [(BASIN, CHAMBER, 10), (CHAMBER, BASIN, 10)], (50, 60, 0, 10),
        )

    def test_basin_down_from_a_full_chamber(self):
        self.poured(SAVING, lying_at(50, 60, 10), DOWN, [(CHAMBER, BASIN, 4), (CHAMBER, LOW, 6)], (56, 60, 0, 4))
        self.poured(
            SAVING, lying_at(50, 60, 10, 1), DOWN, [(CHAMBER, BASIN, 3), (CHAMBER, LOW, 7)], (57, 60, 0, 4),
        )
        self.poured(SAVING, lying_at(50, 60, 10, 4), DOWN, [(CHAMBER, LOW, 10)], (60, 60, 0, 4))
        self.poured(WHOLE, lying_at(50, 60, 10), DOWN, [(CHAMBER, BASIN, 10)], (50, 60, 0, 10))

    def test_pump_up(self):
        self.poured(PUMP, lying_at(50, 60), UP, [(LOW, CHAMBER, 3), (HIGH, CHAMBER, 7)], (47, 53, 10, 0))
        self.poured(
            PUMP, lying_at(50, 60, 10), UP,
            [(CHAMBER, LOW, 10), (LOW, CHAMBER, 3), (HIGH, CHAMBER, 7)], (57, 53, 10, 0),
        )
        self.poured(LIFTS_ALL, lying_at(50, 60), UP, [(LOW, CHAMBER, 10)], (40, 60, 10, 0))

    def test_pump_down(self):
        self.poured(
            PUMP, lying_at(50, 60), DOWN,
            [(LOW, CHAMBER, 3), (HIGH, CHAMBER, 7), (CHAMBER, LOW, 10)], (57, 53, 0, 0),
        )
        self.poured(PUMP, lying_at(50, 60, 10), DOWN, [(CHAMBER, LOW, 10)], (60, 60, 0, 0))
        self.poured(LIFTS_ALL, lying_at(50, 60), DOWN, [(LOW, CHAMBER, 10), (CHAMBER, LOW, 10)], (50, 60, 0, 0))

    def test_the_second_of_two_locks(self):
        reaches = [Reach(name, 0, 1000, 1, 50, at - 1) for at, name in enumerate(("a", "b", "c"))]
        canal = Canal(reaches, [PlainLock("p", 1, 0, 10), BasinLock("q", 2, 1, 8, 5)])
        ways = [(0, ((0, "up"), (1, "up"))), (2, ((1, "down"), (0, "down")))]
        state = (0, (50, 60, 70, 10, 0, 0, 2, 9, -9), (1, 0))
        wanted = [(6, 4, 2), (2, 4, 6)]
        self.assertEqual(pours(canal, ways, state, ("pass", 0)), wanted)
        self.assertEqual(after(canal, ways, state, ("pass", 0)), (0, (50, 60, 64, 10, 8, 0, 0, 9, -9), (2, 0)))
        self.assertEqual(why_not(canal, ways, state, ("pass", 1)), "berth")
        alone = (0, state[1], (2, 0))
        wanted = [(6, 4, 2), (2, 4, 6), (4, 6, 5), (4, 1, 3)]
        self.assertEqual(pours(canal, ways, alone, ("pass", 1)), wanted)

    def test_settled_behind_the_deed_and_nowhere_within_it(self):
        canal = flight(PUMP, crest=(50, 60))
        # The let brings the low reach 10 above its crest; the pump takes 3 of them ahead of the weir.
        state = lying_at(50, 60, 10)
        wanted = [(CHAMBER, LOW, 10), (LOW, CHAMBER, 3), (HIGH, CHAMBER, 7), (LOW, SEA, 7)]
        self.assertEqual(pours(canal, WAYS, state, UP), wanted)
        self.assertEqual(after(canal, WAYS, state, UP), (0, (50, 53, 10, 0, 7, 0), (1, 0)))

    def test_a_state_above_its_crests_is_settled_behind_the_deed(self):
        canal = flight(PLAIN, crest=(50, 60))
        state = lying_at(50, 75)
        wanted = [(HIGH, CHAMBER, 10), (HIGH, LOW, 5), (LOW, SEA, 5)]
        self.assertEqual(pours(canal, WAYS, state, UP), wanted)
        self.assertEqual(after(canal, WAYS, state, UP), (0, (50, 60, 10, 0, 5, 0), (1, 0)))

    def test_the_pours_of_weirs_from_the_last_reach_on(self):
        canal = Canal([Reach("low", 0, 50, 1, 0, -1), Reach("high", 0, 60, 1, 0, -1)], [PLAIN])
        state = lying_at(48, 72)
        wanted = [(HIGH, CHAMBER, 10), (CHAMBER, LOW, 10), (HIGH, SEA, 2), (LOW, SEA, 8)]
        self.assertEqual(pours(canal, WAYS, state, DOWN), wanted)

    def test_numbers_of_many_figures(self):
        lock = PlainLock("p", HIGH, LOW, GREATEST)
        state = lying_at(0, LARGE)
        self.assertEqual(after(flight(lock, crest=(9, LARGE)), WAYS, state, UP)[1][:3], (0, LARGE - GREATEST, GREATEST))


class Water(unittest.TestCase):
    def word(self, lock, state, deed, wanted, least=(0, 0)):
        canal = flight(lock, least)
        with self.subTest(kind=lock.kind(), state=state, deed=deed, least=least):
            self.assertEqual(why_not(canal, WAYS, state, deed), wanted)
            if wanted:
                self.assertRaises(NotNow, pours, canal, WAYS, state, deed)
                self.assertRaises(NotNow, after, canal, WAYS, state, deed)

    def test_just_enough_and_one_less(self):
        for deed in (UP, DOWN):
            self.word(PLAIN, lying_at(0, 10), deed, "")
            self.word(PLAIN, lying_at(0, 9), deed, "water")
            self.word(PLAIN, lying_at(0, 17), deed, "", (0, 7))
            self.word(PLAIN, lying_at(0, 16), deed, "water", (0, 7))

    def test_beneath_its_least_already(self):
        for deed in (UP, DOWN):
            self.word(PLAIN, lying_at(0, 6), deed, "water", (0, 7))
            self.word(PLAIN, lying_at(0, 0), deed, "water", (0, 0))
            self.word(PLAIN, lying_at(0, 0), deed, "water", (0, 7))

    def test_the_least_of_a_reach_that_gives_nothing_is_not_asked(self):
        self.word(PLAIN, lying_at(0, 10), UP, "", (99, 0))
        self.word(PLAIN, lying_at(0, 10), DOWN, "", (99, 0))
        self.word(PLAIN, lying_at(0, 0, 10), DOWN, "", (99, 99))
        self.word(SAVING, lying_at(0, 0, 10), DOWN, "", (99, 99))
        self.word(PUMP, lying_at(0, 0, 10), DOWN, "", (99, 99))
        self.word(LIFTS_ALL, lying_at(10, 0), UP, "", (0, 99))
        self.word(WHOLE, lying_at(0, 0, 0, 10), UP, "", (99, 99))
        self.word(WHOLE, lying_at(0, 0, 0, 10), DOWN, "", (99, 99))
        self.word(WHOLE, lying_at(0, 0, 10, 0), UP, "", (99, 99))

    def test_a_full_chamber_going_up_is_let_and_filled_anew(self):
        self.word(PLAIN, lying_at(0, 10, 10), UP, "")
        self.word(PLAIN, lying_at(0, 9, 10), UP, "water")

    def test_what_the_basin_holds_counts(self):
        for deed in (UP, DOWN):
            for basin in range(5):
                self.word(SAVING, lying_at(0, 12 - basin, 0, basin), deed, "", (0, 2))
                self.word(SAVING, lying_at(0, 11 - basin, 0, basin), deed, "water", (0, 2))
            self.word(WHOLE, lying_at(0, 3, 0, 9), deed, "", (0, 2))
            self.word(WHOLE, lying_at(0, 2, 0, 9), deed, "water", (0, 2))

    def test_the_basin_gets_from_the_let_ahead_of_the_fill(self):
        for basin in range(5):
            self.word(SAVING, lying_at(0, 8, 10, basin), UP, "", (0, 2))
            self.word(SAVING, lying_at(0, 7, 10, basin), UP, "water", (0, 2))

    def test_a_pump_lock_whose_low_reach_gives(self):
        for deed in (UP, DOWN):
            self.word(PUMP, lying_at(8, 9), deed, "", (5, 2))
            self.word(PUMP, lying_at(7, 9), deed, "water", (5, 2))
            self.word(PUMP, lying_at(8, 8), deed, "water", (5, 2))
            self.word(PUMP, lying_at(4, 9), deed, "water", (5, 2))
            self.word(LIFTS_ALL, lying_at(15, 0), deed, "", (5, 2))
            self.word(LIFTS_ALL, lying_at(14, 0), deed, "water", (5, 2))

    def test_the_low_reach_is_asked_right_behind_its_pour(self):
        # Going down the let behind the fill brings the low reach 10 more; it comes too late.
        self.word(PUMP, lying_at(7, 9), DOWN, "water", (5, 2))
        # Going up a let ahead of the fill brings the low reach 10 more; it comes in time.
        self.word(PUMP, lying_at(0, 9, 10), UP, "", (7, 2))
        self.word(PUMP, lying_at(0, 9, 10), UP, "water", (8, 2))
        self.word(LIFTS_ALL, lying_at(5, 0, 10), UP, "", (5, 2))
        self.word(LIFTS_ALL, lying_at(4, 0, 10), UP, "water", (5, 2))

    def test_what_would_spill_counts_within_the_deed(self):
        # The let brings the low reach above its crest, and the pump takes that again ahead of the weir.
        canal = flight(LIFTS_ALL, least=(5, 0), crest=(5, 0))
        self.assertEqual(why_not(canal, WAYS, lying_at(5, 0, 10), UP), "")
        self.assertEqual(after(canal, WAYS, lying_at(5, 0, 10), UP), lying_at(5, 0, 10, places=(1, 0)))

    def test_as_the_machine_of_the_lock_does_or_refuses(self):
        deeds = {"up": UP, "down": DOWN}
        for lock, basin in every_small_lock(3):
            lock = type(lock)(*((lock.name, HIGH, LOW, lock.room) + ((lock.extra(),) if lock.extra() else ())))
            for full, way, low, high in itertools.product(EACH_STAND, deeds, range(5), range(5)):
                canal = flight(lock, least=(1, 1))
                state = lying_at(low, high, lock.room if full else 0, basin)
                machine = Chamber(lock, (high, low, state[1][CHAMBER], basin), (1, 1))
                try:
                    work(machine, passing(full, way))
                except Short:
                    self.assertEqual(why_not(canal, WAYS, state, deeds[way]), "water")
                else:
                    behind = after(canal, WAYS, state, deeds[way])[1]
                    self.assertEqual(machine.waters(), (behind[HIGH], behind[LOW], behind[CHAMBER], behind[BASIN]))

    def test_as_the_machine_does_along_rows_of_deeds(self):
        for canal, ways, state, deed, behind in some_moves(60):
            if deed[0] == "pass":
                k, way = ways[deed[1]][1][state[2][deed[1]]]
                lock = canal.locks[k]
                vessels = (lock.high, lock.low, canal.chamber(k), canal.basin(k))
                least = (canal.reaches[lock.high].least, canal.reaches[lock.low].least)
                machine = Chamber(lock, tuple(state[1][vessel] for vessel in vessels), least)
                work(machine, passing(canal.full(state[1], k), way))
                waters = list(state[1])
                for vessel, amount in zip(vessels, machine.waters()):
                    waters[vessel] = amount
                self.assertEqual(behind[1], settled(canal.weirs(), tuple(waters)))


class BerthAndHome(unittest.TestCase):
    # Boats that stay for another step, and boats whose only step ends there.
    THROUGH = (LOW, ((0, "up"), (0, "down")))
    ENDS = (LOW, ((0, "up"),))
    ABOVE = (HIGH, ((0, "down"),))

    def word(self, ways, places, boat, berths, state=None):
        waters = state or lying_at(50, 60)
        return why_not(flight(PLAIN, berths=berths), ways, (0, waters[1], places), ("pass", boat))

    def test_a_free_berth_and_none(self):
        ways = [self.THROUGH, self.ABOVE, self.ABOVE]
        self.assertEqual(self.word(ways, (0, 0, 0), 0, (9, 3)), "")
        self.assertEqual(self.word(ways, (0, 0, 0), 0, (9, 2)), "berth")
        self.assertEqual(self.word(ways, (0, 0, 0), 0, (9, 1)), "berth")
        self.assertEqual(self.word(ways, (0, 1, 0), 0, (9, 2)), "")
        self.assertEqual(self.word(ways, (0, 1, 0), 0, (9, 1)), "berth")
        self.assertEqual(self.word(ways, (0, 1, 1), 0, (9, 1)), "")

    def test_nine_berths(self):
        self.assertEqual(self.word([self.THROUGH] * 9, (0,) + (1,) * 8, 0, (1, 9)), "")
        self.assertEqual(self.word([self.THROUGH] * 9, (0,) + (1,) * 8, 0, (1, 8)), "berth")

    def test_the_last_step_asks_for_no_berth(self):
        ways = [self.ENDS, self.ABOVE, self.ABOVE]
        self.assertEqual(self.word(ways, (0, 0, 0), 0, (9, 1)), "")
        self.assertEqual(self.word(ways, (0, 0, 0), 0, (9, 2)), "")
        self.assertEqual(self.word([self.THROUGH, self.ENDS], (1, 0), 0, (1, 1)), "")
        self.assertEqual(self.word([self.THROUGH, self.THROUGH], (1, 0), 0, (1, 1)), "")

    def test_the_reach_to_which_it_leads_not_that_in_which_it_lies(self):
        ways = [self.THROUGH, self.ENDS, self.ENDS]
        self.assertEqual(self.word(ways, (0, 0, 0), 0, (1, 1)), "")
        self.assertEqual(self.word(ways, (0, 1, 1), 0, (1, 1)), "")

    def test_down_into_a_reach_without_a_berth(self):
        ways = [(HIGH, ((0, "down"), (0, "up"))), self.ENDS]
        self.assertEqual(self.word(ways, (0, 0), 0, (1, 9)), "berth")
        self.assertEqual(self.word(ways, (0, 0), 0, (2, 9)), "")
        self.assertEqual(self.word(ways, (0, 1), 0, (1, 9)), "")

    def test_a_boat_that_is_home(self):
        self.assertEqual(self.word([self.ENDS], (1,), 0, (1, 1)), "home")
        self.assertEqual(self.word([self.THROUGH], (2,), 0, (1, 1)), "home")
        self.assertEqual(self.word([self.ENDS, self.ABOVE], (1, 0), 0, (1, 1)), "home")
        self.assertEqual(self.word([self.ENDS, self.ABOVE], (1, 0), 1, (1, 1)), "")

    def test_home_is_told_ahead_of_all_else(self):
        ways = [self.THROUGH, self.ABOVE, self.ENDS]
        self.assertEqual(self.word(ways, (2, 0, 0), 0, (1, 1), lying_at(0, 0)), "home")

    def test_berth_is_told_ahead_of_water(self):
        ways = [self.THROUGH, self.ABOVE]
        self.assertEqual(self.word(ways, (0, 0), 0, (1, 1), lying_at(50, 9)), "berth")
        self.assertEqual(self.word(ways, (0, 0), 0, (1, 2), lying_at(50, 9)), "water")
        self.assertEqual(self.word(ways, (0, 1), 0, (1, 1), lying_at(50, 9)), "water")
        self.assertEqual(self.word(ways, (0, 0), 0, (1, 1), lying_at(50, 10)), "berth")

    def test_water_though_the_step_is_the_last_one(self):
        self.assertEqual(self.word([self.ENDS, self.ABOVE], (0, 0), 0, (1, 1), lying_at(50, 9)), "water")

    def test_what_cannot_be_done_is_refused_with_not_now(self):
        canal = flight(PLAIN)
        ways = [self.THROUGH, self.ABOVE, self.ENDS]
        dry = lying_at(0, 9, places=(0, 0, 0))
        for places, boat, word in (((2, 0, 0), 0, "home"), ((0, 0, 0), 0, "berth"), ((0, 0, 0), 1, "water")):
            state = (0, dry[1], places)
            self.assertEqual(why_not(canal, ways, state, ("pass", boat)), word)
            for asked in (pours, after):
                with self.assertRaises(NotNow) as caught:
                    asked(canal, ways, state, ("pass", boat))
                self.assertIs(type(caught.exception), NotNow)
            self.assertEqual(state, (0, dry[1], places))


if __name__ == "__main__":
    unittest.main()
