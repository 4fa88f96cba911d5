"""3.1 to 3.5 (and 0.3): the fills of a row, the thrifty order, the fewest fills."""

import itertools
import random
import unittest

from lockhouse.turns import ends_full, fewest, fills, thrifty
from tests.helpers import EACH_STAND, every_row

MOST = 999999999999


def stepwise(full, row):
    """The thrifty order, just as 3.2 tells it, time by time."""
    waiting = list(range(len(row)))
    order = []
    while waiting:
        ready = [place for place in waiting if row[place] == ("down" if full else "up")]
        goes = (ready or waiting)[0]
        waiting.remove(goes)
        order.append(goes)
        full = row[goes] == "up"
    return order


def in_order(row, order):
    return [row[place] for place in order]


class Fills(unittest.TestCase):
    def test_no_boat(self):
        for full in EACH_STAND:
            self.assertEqual(fills(full, []), 0)
            self.assertIs(ends_full(full, []), full)

    def test_one_boat(self):
        self.assertEqual(fills(False, ["up"]), 1)
        self.assertEqual(fills(True, ["up"]), 1)
        self.assertEqual(fills(False, ["down"]), 1)
        self.assertEqual(fills(True, ["down"]), 0)

    def test_one_way_only(self):
        for many in range(1, 6):
            with self.subTest(many=many):
                self.assertEqual(fills(False, ["up"] * many), many)
                self.assertEqual(fills(True, ["up"] * many), many)
                self.assertEqual(fills(False, ["down"] * many), many)
                self.assertEqual(fills(True, ["down"] * many), many - 1)

    def test_one_behind_the_other(self):
        self.assertEqual(fills(False, ["up", "down"]), 1)
        self.assertEqual(fills(True, ["up", "down"]), 1)
        self.assertEqual(fills(False, ["down", "up"]), 2)
        self.assertEqual(fills(True, ["down", "up"]), 1)
        self.assertEqual(fills(False, ["up", "down", "down", "up", "up", "down"]), 4)
        self.assertEqual(fills(True, ["down", "up", "down", "up"]), 2)

    def test_how_the_chamber_stands_behind_them(self):
        for row in every_row(4):
            if row:
                for full in EACH_STAND:
                    self.assertIs(ends_full(full, row), row[-1] == "up")

    def test_a_row_in_two_pieces(self):
        for full in EACH_STAND:
            for row in every_row(7):
                for cut in range(len(row) + 1):
                    between = ends_full(full, row[:cut])
                    self.assertEqual(fills(full, row), fills(full, row[:cut]) + fills(between, row[cut:]))
                    self.assertIs(ends_full(full, row), ends_full(between, row[cut:]))

    def test_a_whole_number_is_told(self):
        for full in EACH_STAND:
            for row in every_row(3):
                self.assertIs(type(fills(full, row)), int)

    def test_many_boats(self):
        row = ["up", "down"] * 50000
        self.assertEqual(fills(False, row), 50000)
        self.assertIs(ends_full(True, row), False)


class Thrifty(unittest.TestCase):
    def test_no_boat_and_one_boat(self):
        for full in EACH_STAND:
            self.assertEqual(thrifty(full, []), [])
            self.assertEqual(thrifty(full, ["up"]), [0])
            self.assertEqual(thrifty(full, ["down"]), [0])

    def test_one_way_only(self):
        for full in EACH_STAND:
            self.assertEqual(thrifty(full, ["up"] * 4), [0, 1, 2, 3])
            self.assertEqual(thrifty(full, ["down"] * 4), [0, 1, 2, 3])

    def test_whoever_is_ready_goes_first(self):
        self.assertEqual(thrifty(False, ["up", "down"]), [0, 1])
        self.assertEqual(thrifty(False, ["down", "up"]), [1, 0])
        self.assertEqual(thrifty(True, ["up", "down"]), [1, 0])
        self.assertEqual(thrifty(True, ["down", "up"]), [0, 1])
        self.assertEqual(thrifty(False, ["down", "down", "up", "up"]), [2, 0, 3, 1])
        self.assertEqual(thrifty(True, ["up", "up", "up", "down"]), [3, 0, 1, 2])
        self.assertEqual(thrifty(False, ["down", "down", "up", "down"]), [2, 0, 1, 3])

    def test_as_told_step_by_step(self):
        for full in EACH_STAND:
            for row in every_row(9):
                self.assertEqual(thrifty(full, row), stepwise(full, row))

    def test_every_place_once(self):
        for full in EACH_STAND:
            for row in every_row(7):
                self.assertEqual(sorted(thrifty(full, row)), list(range(len(row))))

    def test_no_other_order_takes_fewer_fills(self):
        for full in EACH_STAND:
            for row in every_row(6):
                least = min(fills(full, list(other)) for other in itertools.permutations(row))
                self.assertEqual(fills(full, in_order(row, thrifty(full, row))), least)

    def test_those_of_one_way_go_in_the_order_of_the_row(self):
        for full in EACH_STAND:
            for row in every_row(8):
                order = thrifty(full, row)
                for way in ("up", "down"):
                    places = [place for place in order if row[place] == way]
                    self.assertEqual(places, sorted(places))

    def test_of_any_two_at_least_one_was_the_first_that_waited(self):
        for full in EACH_STAND:
            for row in every_row(8):
                order = thrifty(full, row)
                first = [place == min(order[at:]) for at, place in enumerate(order)]
                self.assertTrue(all(one or other for one, other in zip(first, first[1:])))

    def test_the_place_k_is_among_the_first_2k_and_2(self):
        for full in EACH_STAND:
            for row in every_row(9):
                for turn, place in enumerate(thrifty(full, row), start=1):
                    self.assertLessEqual(turn, 2 * place + 2)

    def test_some_wait_until_just_then(self):
        # So the bound is met, and one turn fewer would be too few to tell.
        for many in range(1, 6):
            order = thrifty(True, ["up"] * many + ["down"] * many)
            self.assertEqual([order.index(place) + 1 for place in range(many)], [2 * k + 2 for k in range(many)])
            order = thrifty(False, ["down"] * many + ["up"] * many)
            self.assertEqual([order.index(place) + 1 for place in range(many)], [2 * k + 2 for k in range(many)])

    def test_many_boats(self):
        source = random.Random(3)
        row = [source.choice(("up", "down")) for _ in range(60000)]
        for full in EACH_STAND:
            order = thrifty(full, row)
            self.assertEqual(sorted(order), list(range(len(row))))
            ups = row.count("up")
            self.assertEqual(fills(full, in_order(row, order)), fewest(full, ups, len(row) - ups))

    def test_the_row_stays_as_it_was(self):
        for full in EACH_STAND:
            for row in every_row(4):
                kept = list(row)
                fills(full, row)
                ends_full(full, row)
                thrifty(full, row)
                self.assertEqual(row, kept)

    def test_what_is_told_is_the_askers_own(self):
        row = ["down", "up", "up"]
        told = thrifty(False, row)
        self.assertIs(type(told), list)
        kept = list(told)
        told.reverse()
        told.append(9)
        self.assertEqual(thrifty(False, row), kept)
        again = thrifty(False, row)
        thrifty(True, row)
        row.clear()
        self.assertEqual(again, kept)


class Fewest(unittest.TestCase):
    def test_no_boat(self):
        self.assertEqual(fewest(False, 0, 0), 0)
        self.assertEqual(fewest(True, 0, 0), 0)

    def test_the_greater_of_two_numbers(self):
        self.assertEqual(fewest(False, 3, 2), 3)
        self.assertEqual(fewest(False, 2, 3), 3)
        self.assertEqual(fewest(False, 3, 3), 3)
        self.assertEqual(fewest(True, 3, 2), 3)
        self.assertEqual(fewest(True, 2, 3), 2)
        self.assertEqual(fewest(True, 2, 4), 3)
        self.assertEqual(fewest(True, 3, 3), 3)

    def test_none_of_one_way(self):
        self.assertEqual(fewest(False, 0, 5), 5)
        self.assertEqual(fewest(True, 0, 5), 4)
        self.assertEqual(fewest(True, 0, 1), 0)
        self.assertEqual(fewest(False, 5, 0), 5)
        self.assertEqual(fewest(True, 5, 0), 5)

    def test_twelve_figures(self):
        self.assertEqual(fewest(False, MOST, MOST), MOST)
        self.assertEqual(fewest(True, MOST, MOST), MOST)
        self.assertEqual(fewest(False, 0, MOST), MOST)
        self.assertEqual(fewest(True, 0, MOST), MOST - 1)
        self.assertEqual(fewest(True, MOST, 0), MOST)
        self.assertEqual(fewest(True, MOST - 2, MOST), MOST - 1)
        self.assertEqual(fewest(True, MOST - 1, MOST), MOST - 1)

    def test_against_every_order(self):
        for full in EACH_STAND:
            for many in range(8):
                for ups in range(many + 1):
                    orders = [row for row in itertools.product(("up", "down"), repeat=many) if row.count("up") == ups]
                    least = min(fills(full, list(row)) for row in orders)
                    self.assertEqual(fewest(full, ups, many - ups), least)

    def test_a_whole_number_is_told(self):
        for full in EACH_STAND:
            for ups, downs in itertools.product(range(3), repeat=2):
                self.assertIs(type(fewest(full, ups, downs)), int)


if __name__ == "__main__":
    unittest.main()
