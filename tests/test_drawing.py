"""3.3 and 3.6 (and 0.1, 0.3): what a row draws from the high reach, and what the basin holds behind it."""

import itertools
import unittest

from lockhouse.chamber import Chamber
from lockhouse.drawing import basin_behind, drawn
from lockhouse.kinds import BasinLock, PlainLock, PumpLock
from lockhouse.passing import passing, work
from lockhouse.turns import ends_full, fills, thrifty
from tests.helpers import EACH_STAND, LARGE, every_row, every_small_lock

PLAIN = PlainLock("gate", 2, 1, 40)
BASIN = BasinLock("gate", 2, 1, 40, 15)
PUMP = PumpLock("gate", 2, 1, 40, 15)


def worked(lock, full, basin, row):
    """The pair of what the high reach lost and what the basin holds, by a machine that has water enough."""
    plenty = 1000000
    machine = Chamber(lock, (plenty, plenty, lock.room if full else 0, basin), (0, 0))
    for way in row:
        work(machine, passing(full, way))
        full = way == "up"
    return plenty - machine.waters()[0], machine.waters()[3]


class NoBoat(unittest.TestCase):
    def test_nothing_is_drawn_and_the_basin_stays(self):
        for lock, basin in every_small_lock():
            for full in EACH_STAND:
                self.assertEqual(drawn(lock, full, basin, []), 0)
                self.assertEqual(basin_behind(lock, full, basin, []), basin)


class Plain(unittest.TestCase):
    def test_one_boat(self):
        self.assertEqual(drawn(PLAIN, False, 0, ["up"]), 40)
        self.assertEqual(drawn(PLAIN, True, 0, ["up"]), 40)
        self.assertEqual(drawn(PLAIN, False, 0, ["down"]), 40)
        self.assertEqual(drawn(PLAIN, True, 0, ["down"]), 0)

    def test_the_room_for_each_fill(self):
        for full in EACH_STAND:
            for row in every_row(6):
                self.assertEqual(drawn(PLAIN, full, 0, row), 40 * fills(full, row))
                self.assertEqual(basin_behind(PLAIN, full, 0, row), 0)


class Pump(unittest.TestCase):
    def test_the_room_less_the_lift_for_each_fill(self):
        for full in EACH_STAND:
            for row in every_row(6):
                self.assertEqual(drawn(PUMP, full, 0, row), 25 * fills(full, row))
                self.assertEqual(basin_behind(PUMP, full, 0, row), 0)

    def test_a_lift_as_large_as_the_room_draws_nothing(self):
        lock = PumpLock("gate", 2, 1, 40, 40)
        for full in EACH_STAND:
            for row in every_row(4):
                self.assertEqual(drawn(lock, full, 0, row), 0)


class Basin(unittest.TestCase):
    def test_one_boat_up_from_an_empty_chamber(self):
        self.assertEqual((drawn(BASIN, False, 0, ["up"]), basin_behind(BASIN, False, 0, ["up"])), (40, 0))
        self.assertEqual((drawn(BASIN, False, 4, ["up"]), basin_behind(BASIN, False, 4, ["up"])), (36, 0))
        self.assertEqual((drawn(BASIN, False, 15, ["up"]), basin_behind(BASIN, False, 15, ["up"])), (25, 0))

    def test_one_boat_up_from_a_full_chamber(self):
        for basin in (0, 4, 15):
            self.assertEqual(drawn(BASIN, True, basin, ["up"]), 25)
            self.assertEqual(basin_behind(BASIN, True, basin, ["up"]), 0)

    def test_one_boat_down_from_an_empty_chamber(self):
        self.assertEqual(drawn(BASIN, False, 0, ["down"]), 40)
        self.assertEqual(drawn(BASIN, False, 4, ["down"]), 36)
        self.assertEqual(drawn(BASIN, False, 15, ["down"]), 25)
        for basin in (0, 4, 15):
            self.assertEqual(basin_behind(BASIN, False, basin, ["down"]), 15)

    def test_one_boat_down_from_a_full_chamber(self):
        for basin in (0, 4, 15):
            self.assertEqual(drawn(BASIN, True, basin, ["down"]), 0)
            self.assertEqual(basin_behind(BASIN, True, basin, ["down"]), 15)

    def test_each_boat_finds_what_the_one_ahead_has_left(self):
        self.assertEqual(drawn(BASIN, False, 4, ["up", "up"]), 36 + 25)
        self.assertEqual(drawn(BASIN, False, 4, ["down", "down"]), 36 + 25)
        self.assertEqual(drawn(BASIN, False, 4, ["up", "down", "up"]), 36 + 0 + 25)
        self.assertEqual(drawn(BASIN, True, 4, ["down", "up", "down"]), 0 + 25 + 0)
        self.assertEqual(basin_behind(BASIN, False, 4, ["up", "down", "up"]), 0)
        self.assertEqual(basin_behind(BASIN, True, 4, ["down", "up", "down"]), 15)

    def test_a_basin_as_large_as_the_room(self):
        lock = BasinLock("gate", 2, 1, 40, 40)
        self.assertEqual(drawn(lock, False, 40, ["up", "down", "up", "up", "down"]), 0)
        self.assertEqual(drawn(lock, False, 0, ["up", "down", "up", "up", "down"]), 40)
        self.assertEqual(drawn(lock, False, 39, ["down", "down"]), 1)
        self.assertEqual(basin_behind(lock, False, 39, ["down", "down"]), 40)


class EveryKind(unittest.TestCase):
    def test_as_the_machine_does_it(self):
        for lock, basin in every_small_lock(3):
            for full in EACH_STAND:
                for row in every_row(5):
                    lost, left = worked(lock, full, basin, row)
                    self.assertEqual(drawn(lock, full, basin, row), lost)
                    self.assertEqual(basin_behind(lock, full, basin, row), left)

    def test_a_row_in_two_pieces(self):
        for lock, basin in every_small_lock(3):
            for full in EACH_STAND:
                for row in every_row(4):
                    for cut in range(len(row) + 1):
                        between = ends_full(full, row[:cut])
                        left = basin_behind(lock, full, basin, row[:cut])
                        self.assertEqual(drawn(lock, full, basin, row),
                                         drawn(lock, full, basin, row[:cut]) + drawn(lock, between, left, row[cut:]))

    def test_no_other_order_draws_less_than_the_thrifty_one(self):
        for lock, basin in every_small_lock(4):
            for full in EACH_STAND:
                for many in range(7):
                    rows = [list(row) for row in itertools.product(("up", "down"), repeat=many)]
                    draws = [(row.count("up"), drawn(lock, full, basin, row)) for row in rows]
                    for row in rows:
                        least = min(draw for ups, draw in draws if ups == row.count("up"))
                        order = [row[place] for place in thrifty(full, row)]
                        self.assertEqual(drawn(lock, full, basin, order), least)

    def test_some_other_order_draws_more(self):
        # So the orders differ in what they draw, at each kind.
        for lock in (PLAIN, BASIN, PUMP):
            self.assertLess(drawn(lock, False, 0, ["up", "down"]), drawn(lock, False, 0, ["down", "up"]))

    def test_nothing_is_refused_for_want_of_water(self):
        row = ["up"] * 20000
        self.assertEqual(drawn(PlainLock("gate", 2, 1, 999999999999), False, 0, row), 20000 * 999999999999)
        self.assertEqual(drawn(BASIN, True, 0, row), 20000 * 25)
        self.assertEqual(drawn(PlainLock("gate", 2, 1, LARGE), True, 0, ["up", "up"]), 2 * LARGE)

    def test_whole_numbers_are_told(self):
        for lock, basin in every_small_lock(2):
            for full in EACH_STAND:
                for row in every_row(2):
                    self.assertIs(type(drawn(lock, full, basin, row)), int)
                    self.assertIs(type(basin_behind(lock, full, basin, row)), int)

    def test_what_is_handed_in_stays_as_it_was(self):
        for lock, basin in every_small_lock(3):
            ahead = dict(vars(lock))
            for full in EACH_STAND:
                for row in every_row(3):
                    kept = list(row)
                    drawn(lock, full, basin, row)
                    basin_behind(lock, full, basin, row)
                    self.assertEqual(row, kept)
            self.assertEqual(vars(lock), ahead)


if __name__ == "__main__":
    unittest.main()
