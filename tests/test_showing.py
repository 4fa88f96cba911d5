"""4.6 (and 0.3): the rows by which a canal is shown, and that they are read to the same canal."""

import random
import unittest

from lockhouse.canal import Canal, Reach
from lockhouse.kinds import BasinLock, PlainLock, PumpLock
from lockhouse.reading import canal_of
from lockhouse.showing import shown
from tests.helpers import GREATEST, some_canals, told


def two_reaches(locks=(), nights=None):
    reaches = [Reach("low", 5, 10, 2, 8, -1), Reach("high", 6, 20, 3, 15, 0)]
    return Canal(reaches, list(locks), nights)


SHOWN = "reach low 5 10 2 8 sea\nreach high 6 20 3 15 low\n"


class Rows(unittest.TestCase):
    def test_one_reach(self):
        self.assertEqual(shown(Canal([Reach("pond", 0, 10, 1, 4, -1)], [])), "reach pond 0 10 1 4 sea\n")

    def test_reaches_and_where_their_weirs_lead(self):
        self.assertEqual(shown(two_reaches()), SHOWN)
        reaches = [Reach(name, 0, 1, 1, 0, target) for name, target in (("a", -1), ("b", 0), ("c", 0), ("d", 2))]
        self.assertEqual(shown(Canal(reaches, [])),
                         "reach a 0 1 1 0 sea\nreach b 0 1 1 0 a\nreach c 0 1 1 0 a\nreach d 0 1 1 0 c\n")

    def test_every_kind_of_lock(self):
        locks = [PlainLock("gate", 1, 0, 4), BasinLock("mill", 1, 0, 6, 3), PumpLock("wheel", 1, 0, 9, 9)]
        self.assertEqual(shown(two_reaches(locks)), SHOWN + "lock gate high low 4\nlock mill high low 6 basin 3\n"
                                                            "lock wheel high low 9 pump 9\n")

    def test_a_lock_called_like_a_reach_and_one_called_sea(self):
        locks = [PlainLock("low", 1, 0, 4), PlainLock("sea", 1, 0, 4)]
        self.assertEqual(shown(two_reaches(locks)), SHOWN + "lock low high low 4\nlock sea high low 4\n")

    def test_a_night_names_those_for_which_it_does_not_foretell_nought_and_nought(self):
        nights = [[(1, 2), (3, 4)], [(0, 0), (5, 6)], [(7, 8), (0, 0)], [(0, 0), (0, 0)], [(0, 9), (9, 0)]]
        self.assertEqual(shown(two_reaches([], nights)), SHOWN + "night low 1 2 high 3 4\nnight high 5 6\n"
                                                                 "night low 7 8\nnight\nnight low 0 9 high 9 0\n")

    def test_reaches_then_locks_then_nights(self):
        canal = two_reaches([PlainLock("gate", 1, 0, 4)], [[(0, 0), (0, 0)]])
        self.assertEqual(shown(canal), SHOWN + "lock gate high low 4\nnight\n")

    def test_the_greatest_numbers_and_nought(self):
        reaches = [Reach("a", GREATEST, GREATEST, 9, GREATEST, -1), Reach("b", 0, 0, 1, 0, 0)]
        canal = Canal(reaches, [PumpLock("gate", 1, 0, GREATEST, GREATEST)], [[(GREATEST, GREATEST), (0, GREATEST)]])
        self.assertEqual(shown(canal), "reach a 999999999999 999999999999 9 999999999999 sea\nreach b 0 0 1 0 a\n"
                                       "lock gate b a 999999999999 pump 999999999999\n"
                                       "night a 999999999999 999999999999 b 0 999999999999\n")

    def test_water_as_it_was_told_though_it_spills_at_the_beginning(self):
        canal = Canal([Reach("pond", 5, 10, 1, 99, -1)], [])
        self.assertEqual(shown(canal), "reach pond 5 10 1 99 sea\n")

    def test_eight_reaches_eight_locks_and_six_nights(self):
        reaches = [Reach("abcdefgh"[at], 0, 9, 1, 3, at - 1) for at in range(8)]
        locks = [PlainLock("ijklmnop"[k], 7, k % 7, 4) for k in range(8)]
        rows = shown(Canal(reaches, locks, [[(1, 0)] * 8 for _ in range(6)])).split("\n")
        self.assertEqual([row.split(" ")[0] for row in rows], ["reach"] * 8 + ["lock"] * 8 + ["night"] * 6 + [""])
        self.assertEqual(rows[7], "reach h 0 9 1 3 g")
        self.assertEqual(rows[15], "lock p h a 4")
        self.assertEqual(rows[21], "night a 1 0 b 1 0 c 1 0 d 1 0 e 1 0 f 1 0 g 1 0 h 1 0")


class ReadAgain(unittest.TestCase):
    def test_to_the_same_canal_and_shown_as_the_same_text(self):
        for canal in some_canals(400):
            text = shown(canal)
            read = canal_of(text)
            self.assertEqual(told(read), told(canal))
            self.assertEqual([type(lock) for lock in read.locks], [type(lock) for lock in canal.locks])
            self.assertEqual(shown(read), text)

    def test_the_canals_that_are_tried_go_to_the_bounds(self):
        canals = list(some_canals(400))
        self.assertEqual({len(canal.reaches) for canal in canals}, set(range(1, 9)))
        self.assertEqual({len(canal.locks) for canal in canals}, set(range(9)))
        self.assertEqual({len(canal.nights) for canal in canals}, set(range(7)))
        self.assertEqual({lock.kind() for canal in canals for lock in canal.locks}, {"plain", "basin", "pump"})

    def test_what_is_read_from_rows_in_another_order(self):
        text = "night\n\nreach b 0 9 1 3 sea\nnight b 0 0\nreach a 0 9 1 3 b\nlock gate a b 4\nnight a 1 2 b 3 4"
        wanted = "reach b 0 9 1 3 sea\nreach a 0 9 1 3 b\nlock gate a b 4\nnight\nnight\nnight b 3 4 a 1 2\n"
        self.assertEqual(shown(canal_of(text)), wanted)
        self.assertEqual(told(canal_of(wanted)), told(canal_of(text)))

    def test_rows_of_one_kind_kept_in_their_order_may_stand_mixed(self):
        source = random.Random(6)
        for canal in some_canals(100):
            text = shown(canal)
            rows = text.splitlines()
            first = len(canal.reaches) + len(canal.locks)
            ahead, nights = rows[:first], rows[first:]
            # Nights that name no reach may stand anywhere; so only these are mixed among the rows ahead.
            for row in nights:
                places = [k for k, other in enumerate(ahead) if other.startswith("night")]
                lowest = max(places, default=-1) + 1
                at = source.randrange(lowest, len(ahead) + 1) if row == "night" else len(ahead)
                ahead.insert(at, row)
            self.assertEqual(shown(canal_of("\n".join(ahead))), text)

    def test_a_text_is_told_and_the_canal_stays_as_it_was(self):
        for canal in some_canals(50):
            ahead = told(canal)
            self.assertIs(type(shown(canal)), str)
            self.assertEqual(shown(canal), shown(canal))
            self.assertEqual(told(canal), ahead)


if __name__ == "__main__":
    unittest.main()
