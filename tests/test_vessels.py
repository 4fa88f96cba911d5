"""1.1 to 1.3 (and 0.1, 0.3, 0.5): waters, single pours, rows of pours, gains."""

import itertools
import unittest

from lockhouse.errors import CanalError, Short
from lockhouse.vessels import gains, poured, poured_all, total
from tests.helpers import LARGE


class SinglePour(unittest.TestCase):
    def test_takes_from_the_source_and_puts_into_the_target(self):
        self.assertEqual(poured((5, 7, 1), 0, 2, 3), (2, 7, 4))
        self.assertEqual(poured((5, 7, 1), 1, 0, 7), (12, 0, 1))
        self.assertEqual(poured((5, 7, 1), 2, 1, 1), (5, 8, 0))

    def test_tells_a_tuple_of_whole_numbers(self):
        told = poured((5, 7), 0, 1, 3)
        self.assertIs(type(told), tuple)
        self.assertEqual([type(water) for water in told], [int, int])

    def test_an_amount_of_nought_changes_nothing(self):
        self.assertEqual(poured((5, 7), 0, 1, 0), (5, 7))
        self.assertEqual(poured((0, 7), 0, 1, 0), (0, 7))

    def test_keeps_nought_where_it_is_left_out(self):
        self.assertEqual(poured((5, 0), 0, 1, 4), (1, 4))
        self.assertEqual(poured((5, 0), 0, 1, 5), (0, 5))
        with self.assertRaises(Short):
            poured((5, 0), 0, 1, 6)

    def test_the_source_holds_one_more_just_and_one_less_than_it_must_keep(self):
        self.assertEqual(poured((9, 0), 0, 1, 4, 4), (5, 4))
        self.assertEqual(poured((9, 0), 0, 1, 5, 4), (4, 5))
        with self.assertRaises(Short):
            poured((9, 0), 0, 1, 6, 4)

    def test_the_edge_of_short_for_many_numbers(self):
        for held, amount, keep in itertools.product(range(-3, 4), range(0, 5), range(-5, 5)):
            with self.subTest(held=held, amount=amount, keep=keep):
                if held - amount < keep:
                    with self.assertRaises(Short):
                        poured((held, 1), 0, 1, amount, keep)
                else:
                    self.assertEqual(poured((held, 1), 0, 1, amount, keep), (held - amount, 1 + amount))

    def test_short_also_at_an_amount_of_nought(self):
        self.assertEqual(poured((3, 0), 0, 1, 0, 3), (3, 0))
        with self.assertRaises(Short):
            poured((3, 0), 0, 1, 0, 4)
        with self.assertRaises(Short):
            poured((-1, 0), 0, 1, 0)

    def test_what_it_must_keep_may_stand_below_nought(self):
        self.assertEqual(poured((0, 0), 0, 1, 5, -5), (-5, 5))
        with self.assertRaises(Short):
            poured((0, 0), 0, 1, 6, -5)

    def test_none_is_never_refused(self):
        self.assertEqual(poured((3, 0), 0, 1, 5, None), (-2, 5))
        self.assertEqual(poured((-3, 0), 0, 1, 0, None), (-3, 0))
        self.assertEqual(poured((-3, 0), 0, 1, LARGE, None), (-3 - LARGE, LARGE))

    def test_what_the_target_holds_is_not_asked(self):
        self.assertEqual(poured((5, -9), 0, 1, 2, 3), (3, -7))

    def test_keep_may_be_told_by_its_name(self):
        self.assertEqual(poured(waters=(5, 0), source=0, target=1, amount=2, keep=3), (3, 2))

    def test_numbers_of_many_figures(self):
        self.assertEqual(poured((LARGE, -LARGE), 0, 1, LARGE - 1, 1), (1, -1))
        with self.assertRaises(Short):
            poured((LARGE, 0), 0, 1, LARGE + 1)

    def test_short_is_a_canal_error_and_a_value_error(self):
        with self.assertRaises(CanalError):
            poured((1, 0), 0, 1, 2)
        with self.assertRaises(ValueError):
            poured((1, 0), 0, 1, 2)

    def test_where_it_is_refused_nothing_changes(self):
        waters = (5, 0)
        with self.assertRaises(Short):
            poured(waters, 0, 1, 6)
        self.assertEqual(waters, (5, 0))
        self.assertEqual(poured(waters, 0, 1, 5), (0, 5))

    def test_what_is_handed_in_stays(self):
        waters = (5, 7)
        poured(waters, 0, 1, 3)
        self.assertEqual(waters, (5, 7))


class RowOfPours(unittest.TestCase):
    def test_done_in_its_order(self):
        row = [(0, 1, 4), (1, 2, 6), (2, 0, 1)]
        self.assertEqual(poured_all((5, 3, 0), row), (2, 1, 5))

    def test_an_empty_row_changes_nothing(self):
        self.assertEqual(poured_all((5, -3), []), (5, -3))
        self.assertEqual(poured_all((), []), ())

    def test_never_refused(self):
        self.assertEqual(poured_all((0, 0), [(0, 1, 5), (0, 1, 5)]), (-10, 10))
        self.assertEqual(poured_all((-4, 0), [(0, 1, 0)]), (-4, 0))

    def test_the_same_pour_more_than_once_counts_each_time(self):
        self.assertEqual(poured_all((9, 0), [(0, 1, 2)] * 3), (3, 6))

    def test_same_as_single_pours_that_are_never_refused(self):
        row = [(3, 0, 7), (0, 1, 2), (0, 3, 0), (2, 1, LARGE), (1, 2, 5)]
        waters = (1, 2, -3, 4)
        single = waters
        for source, target, amount in row:
            single = poured(single, source, target, amount, None)
        self.assertEqual(poured_all(waters, row), single)

    def test_tells_a_tuple(self):
        self.assertIs(type(poured_all((1, 2), [(0, 1, 1)])), tuple)
        self.assertIs(type(poured_all((1, 2), [])), tuple)

    def test_many_vessels(self):
        many = 2000
        row = [(at, at + 1, at + 1) for at in range(many - 1)]
        told = poured_all((0,) * many, row)
        self.assertEqual(told, (-1,) * (many - 1) + (many - 1,))

    def test_what_is_handed_in_stays(self):
        waters = (5, 3)
        row = [(0, 1, 4), (1, 0, 9)]
        poured_all(waters, row)
        self.assertEqual(waters, (5, 3))
        self.assertEqual(row, [(0, 1, 4), (1, 0, 9)])


class Gains(unittest.TestCase):
    def test_all_that_it_got_less_all_that_it_gave(self):
        row = [(0, 1, 4), (1, 2, 6), (2, 0, 1), (0, 1, 2)]
        self.assertEqual(gains(row, 4), [-5, 0, 5, 0])

    def test_an_empty_row_gains_nothing(self):
        self.assertEqual(gains([], 3), [0, 0, 0])
        self.assertEqual(gains([], 0), [])

    def test_an_amount_of_nought_gains_nothing(self):
        self.assertEqual(gains([(0, 1, 0)], 2), [0, 0])

    def test_tells_a_list_that_is_the_askers_own(self):
        row = [(0, 1, 4)]
        told = gains(row, 2)
        self.assertIs(type(told), list)
        told[0] = 99
        told.append(7)
        self.assertEqual(gains(row, 2), [-4, 4])
        self.assertEqual(row, [(0, 1, 4)])

    def test_waters_behind_a_row_are_the_waters_ahead_and_the_gains(self):
        amounts = [0, 1, LARGE]
        for first, second in itertools.product(itertools.permutations(range(3), 2), repeat=2):
            for amount, other in itertools.product(amounts, repeat=2):
                row = [first + (amount,), second + (other,)]
                waters = (4, -2, LARGE)
                behind = tuple(water + gain for water, gain in zip(waters, gains(row, 3)))
                self.assertEqual(poured_all(waters, row), behind)

    def test_the_gains_of_all_vessels_come_to_nought(self):
        self.assertEqual(sum(gains([(0, 1, 4), (2, 1, 6), (1, 0, LARGE)], 3)), 0)


class Total(unittest.TestCase):
    def test_the_sum_of_all_vessels(self):
        self.assertEqual(total((1, 2, 3)), 6)
        self.assertEqual(total((5, -7)), -2)
        self.assertEqual(total((LARGE, LARGE, 1)), 2 * LARGE + 1)

    def test_no_vessels(self):
        self.assertEqual(total(()), 0)

    def test_a_pour_makes_no_water_and_loses_none(self):
        waters = (5, -3, LARGE)
        for source, target in itertools.permutations(range(3), 2):
            for amount in (0, 1, 17, LARGE):
                told = poured(waters, source, target, amount, None)
                self.assertEqual(total(told), total(waters))
                self.assertEqual(total(poured_all(told, [(target, source, amount)] * 2)), total(waters))


if __name__ == "__main__":
    unittest.main()
