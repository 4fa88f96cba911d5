"""2.1 and 2.2 (and 0.1, 0.3): locks, and the parts of their fills and lets."""

import unittest

from lockhouse.kinds import BasinLock, PlainLock, PumpLock
from tests.helpers import LARGE, every_small_lock


class Values(unittest.TestCase):
    def assert_values(self, lock):
        self.assertEqual((lock.name, lock.high, lock.low, lock.room), ("gate", 2, 1, 40))

    def test_plain(self):
        lock = PlainLock("gate", 2, 1, 40)
        self.assert_values(lock)
        self.assertEqual((lock.kind(), lock.extra()), ("plain", 0))

    def test_basin(self):
        lock = BasinLock("gate", 2, 1, 40, 15)
        self.assert_values(lock)
        self.assertEqual((lock.kind(), lock.extra()), ("basin", 15))

    def test_pump(self):
        lock = PumpLock("gate", 2, 1, 40, 15)
        self.assert_values(lock)
        self.assertEqual((lock.kind(), lock.extra()), ("pump", 15))

    def test_both_stand_straight_under_the_plain_lock(self):
        self.assertEqual(BasinLock.__bases__, (PlainLock,))
        self.assertEqual(PumpLock.__bases__, (PlainLock,))

    def test_two_locks_keep_their_values_apart(self):
        first = BasinLock("gate", 2, 1, 40, 15)
        second = BasinLock("sluice", 5, 4, 7, 6)
        self.assert_values(first)
        self.assertEqual(first.extra(), 15)
        self.assertEqual((second.name, second.high, second.low, second.room), ("sluice", 5, 4, 7))
        self.assertEqual(second.extra(), 6)


class PlainParts(unittest.TestCase):
    def test_all_from_high_and_all_to_low(self):
        lock = PlainLock("gate", 2, 1, 40)
        self.assertEqual(lock.fill_parts(0), [("high", 40)])
        self.assertEqual(lock.let_parts(0), [("low", 40)])

    def test_a_room_of_one_and_of_many_figures(self):
        self.assertEqual(PlainLock("gate", 2, 1, 1).fill_parts(0), [("high", 1)])
        self.assertEqual(PlainLock("gate", 2, 1, LARGE).let_parts(0), [("low", LARGE)])


class BasinParts(unittest.TestCase):
    def test_empty_basin(self):
        lock = BasinLock("gate", 2, 1, 40, 15)
        self.assertEqual(lock.fill_parts(0), [("high", 40)])
        self.assertEqual(lock.let_parts(0), [("basin", 15), ("low", 25)])

    def test_full_basin(self):
        lock = BasinLock("gate", 2, 1, 40, 15)
        self.assertEqual(lock.fill_parts(15), [("basin", 15), ("high", 25)])
        self.assertEqual(lock.let_parts(15), [("low", 40)])

    def test_partly_filled_basin(self):
        lock = BasinLock("gate", 2, 1, 40, 15)
        self.assertEqual(lock.fill_parts(4), [("basin", 4), ("high", 36)])
        self.assertEqual(lock.let_parts(4), [("basin", 11), ("low", 29)])
        self.assertEqual(lock.fill_parts(14), [("basin", 14), ("high", 26)])
        self.assertEqual(lock.let_parts(14), [("basin", 1), ("low", 39)])

    def test_basin_as_large_as_the_room(self):
        lock = BasinLock("gate", 2, 1, 40, 40)
        self.assertEqual(lock.fill_parts(40), [("basin", 40)])
        self.assertEqual(lock.let_parts(0), [("basin", 40)])
        self.assertEqual(lock.fill_parts(39), [("basin", 39), ("high", 1)])
        self.assertEqual(lock.let_parts(1), [("basin", 39), ("low", 1)])

    def test_many_figures(self):
        lock = BasinLock("gate", 2, 1, LARGE, LARGE - 1)
        self.assertEqual(lock.fill_parts(LARGE - 1), [("basin", LARGE - 1), ("high", 1)])
        self.assertEqual(lock.let_parts(1), [("basin", LARGE - 2), ("low", 2)])


class PumpParts(unittest.TestCase):
    def test_low_first_and_then_high(self):
        lock = PumpLock("gate", 2, 1, 40, 15)
        self.assertEqual(lock.fill_parts(0), [("low", 15), ("high", 25)])
        self.assertEqual(lock.let_parts(0), [("low", 40)])

    def test_a_lift_of_one_and_one_less_than_the_room(self):
        self.assertEqual(PumpLock("gate", 2, 1, 40, 1).fill_parts(0), [("low", 1), ("high", 39)])
        self.assertEqual(PumpLock("gate", 2, 1, 40, 39).fill_parts(0), [("low", 39), ("high", 1)])

    def test_lift_as_large_as_the_room(self):
        lock = PumpLock("gate", 2, 1, 40, 40)
        self.assertEqual(lock.fill_parts(0), [("low", 40)])
        self.assertEqual(lock.let_parts(0), [("low", 40)])


class EveryKind(unittest.TestCase):
    def test_the_parts_come_to_the_room_and_none_is_nought(self):
        for lock, basin in every_small_lock():
            for parts in (lock.fill_parts(basin), lock.let_parts(basin)):
                with self.subTest(kind=lock.kind(), room=lock.room, extra=lock.extra(), basin=basin):
                    self.assertEqual(sum(amount for vessel, amount in parts), lock.room)
                    self.assertTrue(all(amount > 0 for vessel, amount in parts))

    def test_a_basin_is_emptied_by_a_fill_and_filled_up_by_a_let(self):
        for lock, basin in every_small_lock():
            if lock.kind() == "basin":
                with self.subTest(room=lock.room, side=lock.extra(), basin=basin):
                    self.assertEqual(dict(lock.fill_parts(basin)).get("basin", 0), basin)
                    self.assertEqual(dict(lock.let_parts(basin)).get("basin", 0), lock.extra() - basin)

    def test_lists_of_pairs(self):
        for lock, basin in every_small_lock():
            for parts in (lock.fill_parts(basin), lock.let_parts(basin)):
                self.assertIs(type(parts), list)
                self.assertTrue(all(type(part) is tuple and len(part) == 2 for part in parts))

    def test_what_is_told_is_the_askers_own(self):
        for lock, basin in every_small_lock():
            for ask in (lock.fill_parts, lock.let_parts):
                told = ask(basin)
                kept = list(told)
                told.append(("sea", 1))
                told[0] = ("sky", 2)
                self.assertEqual(ask(basin), kept)

    def test_to_ask_changes_no_value(self):
        for lock, basin in every_small_lock():
            ahead = dict(vars(lock))
            lock.fill_parts(basin)
            lock.let_parts(basin)
            self.assertEqual(vars(lock), ahead)


if __name__ == "__main__":
    unittest.main()
