"""5.1, 5.2 and 5.6 (and 0.3, 0.5): ways, where boats lie, states and their rank."""

import itertools
import unittest

from lockhouse.boats import all_home, begun, lying, rank, reach_of, linked, steps_left
from lockhouse.canal import Canal, Reach
from lockhouse.errors import NotLinked
from lockhouse.kinds import BasinLock, PlainLock, PumpLock
from tests.helpers import GREATEST, some_canals, told

# The reaches from low to high, and a lock from "sill" past the others straight to "top".
REACHES = ("sill", "pool", "pond", "top")
# For each lock the pair of its low reach and its high one.
ENDS = ((0, 1), (1, 2), (2, 3), (0, 3))


def ladder(nights=2):
    reaches = [Reach(name, 0, 100, 2, 50 + at, at - 1) for at, name in enumerate(REACHES)]
    locks = [
        PlainLock("first", 1, 0, 4), BasinLock("second", 2, 1, 6, 3),
        PumpLock("third", 3, 2, 9, 9), PlainLock("short", 3, 0, 5),
    ]
    return Canal(reaches, locks, [[(0, 0)] * 4 for _ in range(nights)])


def up(*locks):
    return tuple((k, "up") for k in locks)


def down(*locks):
    return tuple((k, "down") for k in locks)


def with_chambers(canal, held):
    """The canal's start with so much in the chambers."""
    waters = list(canal.start())
    for k, amount in enumerate(held):
        waters[canal.chamber(k)] = amount
    return tuple(waters)


class Linked(unittest.TestCase):
    def refused(self, start, steps):
        with self.subTest(start=start, steps=steps):
            with self.assertRaises(NotLinked) as caught:
                linked(ladder(), start, steps)
            self.assertIs(type(caught.exception), NotLinked)

    def test_one_step(self):
        self.assertEqual(linked(ladder(), 0, up(0)), [0, 1])
        self.assertEqual(linked(ladder(), 1, down(0)), [1, 0])
        self.assertEqual(linked(ladder(), 0, up(3)), [0, 3])
        self.assertEqual(linked(ladder(), 3, down(3)), [3, 0])

    def test_several_steps(self):
        self.assertEqual(linked(ladder(), 0, up(0, 1, 2)), [0, 1, 2, 3])
        self.assertEqual(linked(ladder(), 3, down(2, 1, 0)), [3, 2, 1, 0])
        self.assertEqual(linked(ladder(), 2, up(2) + down(3) + up(0)), [2, 3, 0, 1])

    def test_to_and_fro_through_one_lock_and_eight_steps(self):
        self.assertEqual(linked(ladder(), 1, (up(1) + down(1)) * 4), [1, 2] * 4 + [1])

    def test_no_step_and_more_than_eight(self):
        self.assertEqual(linked(ladder(), 2, ()), [2])
        self.assertEqual(linked(ladder(), 0, (up(0) + down(0)) * 6), [0, 1] * 6 + [0])

    def test_the_first_step_begins_elsewhere(self):
        self.refused(0, up(1))
        self.refused(1, up(0))
        self.refused(0, down(0))
        self.refused(2, up(0, 1))
        self.refused(3, down(1) + up(1))

    def test_a_later_step_begins_elsewhere(self):
        self.refused(0, up(0, 0))
        self.refused(0, up(0, 2))
        self.refused(0, up(0, 1) + up(1))
        self.refused(0, up(0, 1, 2) + down(0))
        self.refused(3, down(2) + down(2))
        self.refused(0, (up(0) + down(0)) * 3 + down(0))

    def test_every_row_of_up_to_three_steps(self):
        canal = ladder()
        every_step = list(itertools.product(range(4), ("up", "down")))
        moves = {(low, (k, "up")): high for k, (low, high) in enumerate(ENDS)}
        moves.update({(high, (k, "down")): low for k, (low, high) in enumerate(ENDS)})
        for many in range(4):
            for steps in itertools.product(every_step, repeat=many):
                for start in range(4):
                    along = [start]
                    for step in steps:
                        along.append(moves.get((along[-1], step)))
                    if None in along:
                        self.assertRaises(NotLinked, linked, canal, start, steps)
                    else:
                        self.assertEqual(linked(canal, start, steps), along)

    def test_a_list_is_told_and_it_is_the_askers_own(self):
        canal = ladder()
        steps = up(0, 1)
        along = linked(canal, 0, steps)
        self.assertIs(type(along), list)
        along.append(9)
        along[0] = 9
        self.assertEqual(linked(canal, 0, steps), [0, 1, 2])
        self.assertEqual(steps, ((0, "up"), (1, "up")))

    def test_a_refusal_changes_nothing(self):
        canal = ladder()
        steps = up(0, 0)
        self.assertRaises(NotLinked, linked, canal, 0, steps)
        self.assertEqual(steps, ((0, "up"), (0, "up")))
        self.assertEqual(told(canal), told(ladder()))
        self.assertEqual(linked(canal, 0, up(0)), [0, 1])


class Begun(unittest.TestCase):
    def test_day_nought_the_canals_start_and_no_step_done(self):
        canal = ladder()
        ways = [(0, up(0, 1)), (3, down(2)), (1, down(0))]
        self.assertEqual(begun(canal, ways), (0, canal.start(), (0, 0, 0)))

    def test_no_boats(self):
        canal = ladder()
        self.assertEqual(begun(canal, []), (0, canal.start(), ()))

    def test_nine_boats(self):
        self.assertEqual(begun(ladder(), [(0, up(0))] * 9)[2], (0,) * 9)

    def test_the_start_is_settled(self):
        canal = Canal([Reach("pond", 0, 10, 1, 17, -1)], [])
        self.assertEqual(begun(canal, []), (0, (10, 7, 0), ()))

    def test_kinds(self):
        state = begun(ladder(), [(0, up(0))])
        self.assertEqual([type(part) for part in state], [int, tuple, tuple])
        self.assertIs(type(state), tuple)
        self.assertTrue(all(type(place) is int for place in state[2]))

    def test_the_ways_stay_as_they_were(self):
        ways = [(0, up(0, 1)), (3, down(2))]
        begun(ladder(), ways)
        self.assertEqual(ways, [(0, up(0, 1)), (3, down(2))])

    def test_every_canal(self):
        for canal in some_canals(50):
            self.assertEqual(begun(canal, []), (0, canal.start(), ()))


class ReachOf(unittest.TestCase):
    def test_at_the_beginning_in_the_midst_and_home(self):
        way = (0, up(0, 1, 2))
        self.assertEqual([reach_of(ladder(), way, place) for place in range(4)], [0, 1, 2, -1])

    def test_down(self):
        way = (3, down(2, 1))
        self.assertEqual([reach_of(ladder(), way, place) for place in range(3)], [3, 2, -1])

    def test_one_step(self):
        self.assertEqual([reach_of(ladder(), (3, down(3)), place) for place in range(2)], [3, -1])

    def test_home_though_the_way_ends_where_it_began(self):
        way = (2, up(2) + down(2))
        self.assertEqual([reach_of(ladder(), way, place) for place in range(3)], [2, 3, -1])

    def test_eight_steps(self):
        way = (1, (up(1) + down(1)) * 4)
        self.assertEqual([reach_of(ladder(), way, place) for place in range(9)], [1, 2] * 4 + [-1])

    def test_as_the_way_is_linked(self):
        canal = ladder()
        for way in ((0, up(0, 1, 2)), (0, up(3) + down(2, 1)), (2, down(1, 0) + up(3)), (1, (up(1) + down(1)) * 4)):
            along = linked(canal, way[0], way[1])
            for place in range(len(way[1])):
                self.assertEqual(reach_of(canal, way, place), along[place])
                self.assertIs(type(reach_of(canal, way, place)), int)


class Lying(unittest.TestCase):
    WAYS = [(0, up(0, 1)), (0, up(0, 1, 2)), (1, down(0)), (3, down(2, 1)), (2, down(1))]

    def count(self, places):
        canal = ladder()
        state = (0, canal.start(), places)
        return [lying(canal, self.WAYS, state, reach) for reach in range(4)]

    def test_all_at_the_beginning(self):
        self.assertEqual(self.count((0, 0, 0, 0, 0)), [2, 1, 1, 1])

    def test_in_the_midst(self):
        self.assertEqual(self.count((1, 2, 0, 1, 0)), [0, 2, 3, 0])

    def test_who_is_home_lies_in_no_reach(self):
        self.assertEqual(self.count((2, 0, 0, 0, 0)), [1, 1, 1, 1])
        self.assertEqual(self.count((0, 0, 1, 0, 1)), [2, 0, 0, 1])
        self.assertEqual(self.count((2, 3, 1, 2, 1)), [0, 0, 0, 0])

    def test_no_boats(self):
        canal = ladder()
        for reach in range(4):
            self.assertEqual(lying(canal, [], begun(canal, []), reach), 0)

    def test_more_than_the_berths_and_nine(self):
        canal = ladder()
        ways = [(2, up(2))] * 9
        self.assertEqual(lying(canal, ways, begun(canal, ways), 2), 9)
        self.assertEqual(lying(canal, ways, (0, canal.start(), (1, 0) * 4 + (0,)), 2), 5)

    def test_every_boat_lies_in_one_reach_or_is_home(self):
        for places in itertools.product(range(3), range(4), range(2), range(3), range(2)):
            home = sum(place == len(way[1]) for way, place in zip(self.WAYS, places))
            self.assertEqual(sum(self.count(places)), 5 - home)

    def test_neither_day_nor_waters_matter_and_a_whole_number_is_told(self):
        canal = ladder()
        state = (2, with_chambers(canal, (4, 6, 9, 5)), (1, 2, 0, 1, 0))
        self.assertEqual(lying(canal, self.WAYS, state, 2), 3)
        self.assertIs(type(lying(canal, self.WAYS, state, 2)), int)


class Home(unittest.TestCase):
    WAYS = [(0, up(0, 1)), (3, down(2)), (1, (up(1) + down(1)) * 4)]

    def test_all_some_and_none(self):
        self.assertIs(all_home(self.WAYS, (0, (), (2, 1, 8))), True)
        for places in ((1, 1, 8), (2, 0, 8), (2, 1, 7), (0, 1, 8), (2, 1, 0), (0, 0, 0)):
            self.assertIs(all_home(self.WAYS, (0, (), places)), False)

    def test_no_boats(self):
        self.assertIs(all_home([], begun(ladder(), [])), True)
        self.assertEqual(steps_left([], begun(ladder(), [])), 0)

    def test_steps_still_to_do(self):
        for places in itertools.product(range(3), range(2), range(9)):
            self.assertEqual(steps_left(self.WAYS, (0, (), places)), 11 - sum(places))
            self.assertIs(all_home(self.WAYS, (0, (), places)), places == (2, 1, 8))

    def test_a_whole_number_is_told(self):
        self.assertIs(type(steps_left(self.WAYS, (0, (), (0, 0, 0)))), int)

    def test_what_is_handed_in_stays_as_it_was(self):
        canal = ladder()
        ways = list(self.WAYS)
        state = begun(canal, ways)
        kept = (0, canal.start(), (0, 0, 0))
        lying(canal, ways, state, 0)
        all_home(ways, state)
        steps_left(ways, state)
        rank(canal, ways, state)
        self.assertEqual((ways, state), (self.WAYS, kept))
        self.assertEqual(told(canal), told(ladder()))


class Rank(unittest.TestCase):
    WAYS = [(0, up(0, 1)), (3, down(2))]

    def rank(self, day, held, places, nights=2):
        canal = ladder(nights)
        return rank(canal, self.WAYS, (day, with_chambers(canal, held), places))

    def test_at_the_beginning_steps_twice_and_nights(self):
        self.assertEqual(self.rank(0, (), (0, 0)), 2 * 3 + 2)
        self.assertEqual(self.rank(0, (), (0, 0), nights=0), 2 * 3)
        self.assertEqual(self.rank(0, (), (0, 0), nights=6), 2 * 3 + 6)

    def test_full_chambers(self):
        self.assertEqual(self.rank(0, (4,), (0, 0)), 6 + 1 + 2)
        self.assertEqual(self.rank(0, (0, 6, 0, 5), (0, 0)), 6 + 2 + 2)
        self.assertEqual(self.rank(0, (4, 6, 9, 5), (0, 0)), 6 + 4 + 2)
        self.assertEqual(self.rank(0, (GREATEST, 1, 0, 0), (0, 0)), 6 + 2 + 2)

    def test_nights_that_have_gone(self):
        self.assertEqual(self.rank(1, (), (0, 0)), 6 + 1)
        self.assertEqual(self.rank(2, (), (0, 0)), 6)
        self.assertEqual(self.rank(2, (), (2, 1)), 0)

    def test_a_night_beyond_all_that_were_foretold(self):
        self.assertEqual(self.rank(3, (), (0, 0)), 6)
        self.assertEqual(self.rank(1, (4,), (2, 1), nights=0), 1)

    def test_no_boats(self):
        canal = ladder()
        self.assertEqual(rank(canal, [], begun(canal, [])), 2)
        self.assertEqual(rank(canal, [], (1, with_chambers(canal, (4, 6)), ())), 3)
        self.assertEqual(rank(ladder(0), [], begun(ladder(0), [])), 0)

    def test_a_canal_of_one_reach(self):
        canal = Canal([Reach("pond", 0, 10, 1, 17, -1)], [])
        self.assertEqual(rank(canal, [], begun(canal, [])), 0)

    def test_full_basins_and_reaches_do_not_count(self):
        canal = ladder()
        waters = tuple(0 if canal.chamber(0) <= vessel <= canal.chamber(3) else 7 for vessel in range(canal.many()))
        self.assertEqual(rank(canal, self.WAYS, (0, waters, (0, 0))), 8)

    def test_all_three_together(self):
        for day in range(3):
            for held in itertools.product((0, 3), repeat=4):
                for places in itertools.product(range(3), range(2)):
                    wanted = 2 * (3 - sum(places)) + sum(amount > 0 for amount in held) + 2 - day
                    self.assertEqual(self.rank(day, held, places), wanted)

    def test_less_behind_a_step_a_let_and_a_night(self):
        empty = self.rank(0, (0,), (0, 0))
        self.assertLess(self.rank(0, (4,), (1, 0)), empty)
        full = self.rank(0, (4,), (1, 0))
        self.assertLess(self.rank(0, (0,), (1, 0)), full)
        self.assertLess(self.rank(1, (4,), (1, 0)), full)

    def test_a_whole_number_is_told(self):
        self.assertIs(type(self.rank(0, (4,), (0, 0))), int)


if __name__ == "__main__":
    unittest.main()
