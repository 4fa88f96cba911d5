"""4.4 and 4.5 (and 0.3 to 0.5): the rows of text that tell a canal, and their refusals."""

import itertools
import unittest

from lockhouse.canal import Canal
from lockhouse.errors import BadNumber, BadRow, TooMany, Twice, Unknown
from lockhouse.kinds import BasinLock, PlainLock, PumpLock
from lockhouse.reading import canal_of
from tests.helpers import GREATEST, told

LETTERS = "abcdefgh"
POND = "reach pond 0 10 1 4 sea\n"
TWO = "reach low 5 10 2 8 sea\nreach high 6 20 3 15 low\n"


def reaches(many):
    """So many rows of reaches, called a, b, c and so on."""
    return "".join(f"reach {LETTERS[at]} 0 9 1 3 sea\n" for at in range(many))


def locks(many):
    """So many rows of locks between the reaches a and b, called la, lb and so on."""
    return "".join(f"lock l{LETTERS[k]} b a 4\n" for k in range(many))


class Case(unittest.TestCase):
    def refused(self, refusal, text):
        with self.subTest(text=text):
            with self.assertRaises(ValueError) as caught:
                canal_of(text)
            self.assertIs(type(caught.exception), refusal)

    def tells(self, text, reaches=None, locks=None, nights=None):
        with self.subTest(text=text):
            read = told(canal_of(text))
            for wanted, part in zip((reaches, locks, nights), read):
                if wanted is not None:
                    self.assertEqual(part, wanted)


class Good(Case):
    def test_one_reach_and_nothing_else(self):
        self.tells(POND, (("pond", 0, 10, 1, 4, -1),), (), ())

    def test_a_canal_is_told(self):
        canal = canal_of(TWO + "night\n")
        self.assertIs(type(canal), Canal)
        for value in (canal.reaches, canal.locks, canal.nights, canal.nights[0]):
            self.assertIs(type(value), list)
        self.assertTrue(all(type(pair) is tuple for pair in canal.nights[0]))
        self.assertEqual(canal.start(), (8, 15, 0, 0))

    def test_targets(self):
        text = "reach a 0 1 1 0 sea\nreach b 0 1 1 0 a\nreach c 0 1 1 0 sea\nreach d 0 1 1 0 b\nreach e 0 1 1 0 a\n"
        self.assertEqual([reach.target for reach in canal_of(text).reaches], [-1, 0, -1, 1, 0])

    def test_every_kind_of_lock(self):
        text = TWO + "lock gate high low 4\nlock mill high low 6 basin 3\nlock wheel high low 9 pump 2\n"
        canal = canal_of(text)
        self.assertEqual([type(lock) for lock in canal.locks], [PlainLock, BasinLock, PumpLock])
        self.tells(text, None, (
            ("gate", 1, 0, 4, "plain", 0), ("mill", 1, 0, 6, "basin", 3), ("wheel", 1, 0, 9, "pump", 2),
        ))

    def test_a_lock_past_reaches_between(self):
        self.tells(reaches(4) + "lock gate d b 4\nlock mill c a 4\n", None,
                   (("gate", 3, 1, 4, "plain", 0), ("mill", 2, 0, 4, "plain", 0)))

    def test_nights(self):
        self.tells(TWO + "night low 1 2 high 3 4\nnight high 5 6\nnight high 7 8 low 9 10\nnight\n", None, None, (
            ((1, 2), (3, 4)), ((0, 0), (5, 6)), ((9, 10), (7, 8)), ((0, 0), (0, 0)),
        ))

    def test_a_night_that_tells_nought(self):
        text = POND + "night pond 0 0\nnight pond 0 3\nnight pond 3 0\n"
        self.tells(text, None, None, (((0, 0),), ((0, 3),), ((3, 0),)))

    def test_rows_of_all_kinds_mixed(self):
        text = ("night\nreach a 0 9 1 3 sea\nnight a 1 2\nreach b 1 8 2 4 a\nlock gate b a 4\nnight b 3 4\n"
                "reach c 2 7 3 5 b\nlock mill c a 6 pump 6\nnight c 5 6 a 7 8\n")
        self.tells(text, (("a", 0, 9, 1, 3, -1), ("b", 1, 8, 2, 4, 0), ("c", 2, 7, 3, 5, 1)),
                   (("gate", 1, 0, 4, "plain", 0), ("mill", 2, 0, 6, "pump", 6)),
                   (((0, 0),) * 3, ((1, 2), (0, 0), (0, 0)), ((0, 0), (3, 4), (0, 0)), ((7, 8), (0, 0), (5, 6))))

    def test_nights_ahead_of_all_reaches(self):
        self.tells("night\nnight\n" + reaches(3), None, (), (((0, 0),) * 3,) * 2)

    def test_nights_are_lists_of_their_own(self):
        canal = canal_of("night\nnight\n" + POND + "night pond 1 1\nnight pond 1 1\n")
        canal.nights[0].append((9, 9))
        canal.nights[2][0] = (8, 8)
        self.assertEqual(canal.nights, [[(0, 0), (9, 9)], [(0, 0)], [(8, 8)], [(1, 1)]])

    def test_two_readings_keep_apart(self):
        first = canal_of(TWO)
        first.reaches.pop()
        first.nights.append([])
        self.assertEqual(len(canal_of(TWO).reaches), 2)
        self.assertEqual(canal_of(TWO).nights, [])

    def test_eight_reaches_eight_locks_and_six_nights(self):
        canal = canal_of(reaches(8) + locks(8) + "night\n" * 5 + "night h 1 2\n")
        self.assertEqual((len(canal.reaches), len(canal.locks), len(canal.nights)), (8, 8, 6))
        self.assertEqual([reach.name for reach in canal.reaches], list(LETTERS))
        self.assertEqual(canal.nights[5], [(0, 0)] * 7 + [(1, 2)])


class Names(Case):
    def test_a_lock_called_like_a_reach_and_one_called_sea(self):
        canal = canal_of(TWO + "lock low high low 4\nlock sea high low 4\nlock high high low 4\n")
        self.assertEqual([lock.name for lock in canal.locks], ["low", "sea", "high"])

    def test_names_that_are_beginnings_or_ends_of_one_another(self):
        text = ("reach mill 0 9 1 3 sea\nreach millpond 0 9 1 3 mill\nreach pond 0 9 1 3 millpond\n"
                "reach m 0 9 1 3 pond\nlock l pond mill 4\nlock ll m pond 4\nnight pond 1 2 mill 3 4\n")
        self.tells(text, (
            ("mill", 0, 9, 1, 3, -1), ("millpond", 0, 9, 1, 3, 0), ("pond", 0, 9, 1, 3, 1), ("m", 0, 9, 1, 3, 2),
        ), (("l", 2, 0, 4, "plain", 0), ("ll", 3, 2, 4, "plain", 0)), (((3, 4), (0, 0), (1, 2), (0, 0)),))

    def test_words_of_rows_as_names(self):
        text = ("reach reach 0 9 1 3 sea\nreach lock 0 9 1 3 reach\nreach night 0 9 1 3 lock\n"
                "reach basin 0 9 1 3 sea\nreach pump 0 9 1 3 basin\n"
                "lock basin pump basin 4 basin 4\nlock pump lock reach 4 pump 1\nnight night 1 2 pump 3 4\n")
        canal = canal_of(text)
        self.assertEqual([reach.name for reach in canal.reaches], ["reach", "lock", "night", "basin", "pump"])
        self.assertEqual([(lock.high, lock.low) for lock in canal.locks], [(4, 3), (1, 0)])

    def test_twelve_letters_and_thirteen(self):
        self.tells("reach abcdefghijkl 0 9 1 3 sea\n", (("abcdefghijkl", 0, 9, 1, 3, -1),))
        self.refused(BadRow, "reach abcdefghijklm 0 9 1 3 sea\n")

    def test_a_reach_called_sea(self):
        self.refused(BadRow, "reach sea 0 9 1 3 sea\n")
        self.refused(BadRow, POND + "reach sea 0 9 1 3 pond\n")
        self.tells("reach seas 0 9 1 3 sea\n", (("seas", 0, 9, 1, 3, -1),))

    def test_no_name_at_every_place_of_a_name(self):
        for word in ("", "Pond", "pond1", "1", "po-nd", "abcdefghijklm", "p\u00f6nd", "\uff41", "pond\t", "pond\r"):
            self.refused(BadRow, f"reach {word} 0 9 1 3 sea\n")
            self.refused(BadRow, f"reach pond 0 9 1 3 {word}\n")
            self.refused(BadRow, TWO + f"lock {word} high low 4\n")
            self.refused(BadRow, TWO + f"lock gate {word} low 4\n")
            self.refused(BadRow, TWO + f"lock gate high {word} 4\n")
            self.refused(BadRow, TWO + f"night {word} 1 2\n")
            self.refused(BadRow, TWO + f"night low 1 2 {word} 1 2\n")


class Numbers(Case):
    def test_no_number_at_every_place_of_a_number(self):
        for word in ("", "00", "01", "-1", "+1", "-0", "1.0", "1_0", "a", "sea", "1000000000000", "\u0661", "1\t",
                     "True"):
            for place in range(4):
                numbers = ["0", "9", "1", "3"]
                numbers[place] = word
                self.refused(BadRow, "reach pond " + " ".join(numbers) + " sea\n")
            self.refused(BadRow, TWO + f"lock gate high low {word}\n")
            self.refused(BadRow, TWO + f"lock gate high low {word} basin 1\n")
            self.refused(BadRow, TWO + f"lock gate high low 4 basin {word}\n")
            self.refused(BadRow, TWO + f"lock gate high low 4 pump {word}\n")
            self.refused(BadRow, TWO + f"night low {word} 0\n")
            self.refused(BadRow, TWO + f"night low 0 {word}\n")
            self.refused(BadRow, TWO + f"night low 0 0 high {word} 0\n")
            self.refused(BadRow, TWO + f"night low 0 0 high 0 {word}\n")

    def test_twelve_figures_everywhere(self):
        text = (f"reach low {GREATEST} {GREATEST} 9 {GREATEST} sea\nreach high 0 0 1 0 low\n"
                f"lock gate high low {GREATEST}\nlock mill high low {GREATEST} basin {GREATEST}\n"
                f"lock wheel high low {GREATEST} pump {GREATEST}\nnight low {GREATEST} {GREATEST}\n")
        self.tells(text, (("low", GREATEST, GREATEST, 9, GREATEST, -1), ("high", 0, 0, 1, 0, 0)), (
            ("gate", 1, 0, GREATEST, "plain", 0), ("mill", 1, 0, GREATEST, "basin", GREATEST),
            ("wheel", 1, 0, GREATEST, "pump", GREATEST),
        ), (((GREATEST, GREATEST), (0, 0)),))

    def test_whole_numbers_are_told(self):
        canal = canal_of(TWO + "lock gate high low 4 pump 1\nnight low 1 0\n")
        reach, lock = canal.reaches[0], canal.locks[0]
        numbers = (reach.least, reach.crest, reach.berths, reach.water, reach.target)
        for number in numbers + (lock.high, lock.low, lock.room, lock.extra()) + canal.nights[0][0]:
            self.assertIs(type(number), int)

    def test_least_and_crest(self):
        self.tells("reach pond 9 9 1 3 sea\n", (("pond", 9, 9, 1, 3, -1),))
        self.refused(BadNumber, "reach pond 10 9 1 3 sea\n")
        self.tells("reach pond 9 10 1 3 sea\n", (("pond", 9, 10, 1, 3, -1),))
        self.refused(BadNumber, "reach pond 1 0 1 3 sea\n")
        self.refused(BadNumber, f"reach pond {GREATEST} {GREATEST - 1} 1 3 sea\n")

    def test_berths(self):
        for berths in range(1, 10):
            self.tells(f"reach pond 0 9 {berths} 3 sea\n", (("pond", 0, 9, berths, 3, -1),))
        for berths in (0, 10, 11, 90, GREATEST):
            self.refused(BadNumber, f"reach pond 0 9 {berths} 3 sea\n")

    def test_water_below_the_least_and_above_the_crest(self):
        for water in (0, 4, 5, 9, 10, 11, GREATEST):
            self.tells(f"reach pond 5 10 1 {water} sea\n", (("pond", 5, 10, 1, water, -1),))

    def test_a_low_reach_that_is_the_high_one_or_stands_behind_it(self):
        text = reaches(3)
        for high, low in itertools.product("abc", repeat=2):
            if low < high:
                self.tells(text + f"lock gate {high} {low} 4\n", None,
                           (("gate", "abc".index(high), "abc".index(low), 4, "plain", 0),))
            else:
                self.refused(BadNumber, text + f"lock gate {high} {low} 4\n")
                self.refused(BadNumber, text + f"lock gate {high} {low} 4 basin 4\n")

    def test_a_room_of_nought(self):
        self.refused(BadNumber, TWO + "lock gate high low 0\n")
        self.refused(BadNumber, TWO + "lock gate high low 0 basin 0\n")
        self.refused(BadNumber, TWO + "lock gate high low 0 pump 1\n")
        self.tells(TWO + "lock gate high low 1\n", None, (("gate", 1, 0, 1, "plain", 0),))

    def test_a_basin_or_a_lift_of_nought_of_the_room_and_of_one_more(self):
        for kind in ("basin", "pump"):
            for room in (1, 2, 7):
                for extra in range(0, room + 4):
                    text = TWO + f"lock gate high low {room} {kind} {extra}\n"
                    if 1 <= extra <= room:
                        self.tells(text, None, (("gate", 1, 0, room, kind, extra),))
                    else:
                        self.refused(BadNumber, text)


# Rows that may stand behind TWO.
GOOD_ROWS = ("reach pool 0 10 1 4 sea", "lock gate high low 4", "lock gate high low 4 basin 2", "night low 1 2")


class Rows(Case):
    WANTED = (("pond", 0, 10, 1, 4, -1),)

    def test_the_last_row_with_and_without_its_line_feed(self):
        self.tells(POND, self.WANTED)
        self.tells(POND.rstrip("\n"), self.WANTED)
        self.tells(POND + "night pond 1 2", self.WANTED, (), (((1, 2),),))
        self.tells(POND + "night", self.WANTED, (), (((0, 0),),))

    def test_empty_rows_before_between_and_behind(self):
        self.tells("\n" + POND, self.WANTED)
        self.tells("\n\n\n" + POND + "\n\n", self.WANTED)
        self.tells(POND + "\n\nnight pond 1 2\n\n\nnight\n\n", self.WANTED, (), (((1, 2),), ((0, 0),)))

    def test_a_row_of_blanks(self):
        for blank in (" ", "  ", "\t", "\r", "\u00a0", "\x0b", "\x0c"):
            self.refused(BadRow, POND + blank + "\n")
            self.refused(BadRow, blank + "\n" + POND)
            self.refused(BadRow, POND + blank)

    def test_a_blank_at_a_rows_beginning_or_end(self):
        for row in GOOD_ROWS + ("night",):
            self.assertEqual(type(canal_of(TWO + row)), Canal)
            self.refused(BadRow, TWO + " " + row)
            self.refused(BadRow, TWO + row + " ")
            self.refused(BadRow, TWO + row + " \n")
            self.refused(BadRow, TWO + row + "\r\n")
            self.refused(BadRow, TWO + "\t" + row)

    def test_two_blanks_or_another_sign_between_two_words(self):
        for row in GOOD_ROWS:
            words = row.split(" ")
            for k in range(1, len(words)):
                for sign in ("  ", "\t", "\u00a0", " \t", ",", "\x0b"):
                    self.refused(BadRow, TWO + " ".join(words[:k]) + sign + " ".join(words[k:]) + "\n")

    def test_only_line_feeds_part_rows(self):
        for sign in ("\r", "\x0b", "\x0c", "\x1c", "\x85", "\u2028", "\r\n"):
            self.refused(BadRow, "reach pond 0 10 1 4 sea" + sign + "night\n")
            self.refused(BadRow, POND + "night" + sign + "night\n")

    def test_another_first_word(self):
        for row in ("keeper", "reaches", "reac", "Reach pool 0 10 1 4 sea", "pool 0 10 1 4 sea", "NIGHT", "nights",
                    "locks gate high low 4", "come boat low", "0", "sea", "basin", "#", "rea ch"):
            self.refused(BadRow, TWO + row + "\n")
            self.refused(BadRow, row + "\n" + TWO)

    def test_too_few_words_and_too_many(self):
        for row in ("reach pool 0 10 1 4 sea", "lock gate high low 4 basin 2", "lock gate high low 4 pump 2",
                    "night low 1 2 high 3 4"):
            words = row.split(" ")
            good = {"reach": (7,), "lock": (5, 7), "night": (1, 4, 7)}[words[0]]
            for many in range(1, len(words)):
                text = TWO + " ".join(words[:many]) + "\n"
                if many in good:
                    self.assertEqual(type(canal_of(text)), Canal)
                else:
                    self.refused(BadRow, text)
            for behind in ("1", "low", "low 1", "1 2", "sea", "basin 1", "1 2 3", "1 basin 2", "basin 1 pump 1"):
                self.refused(BadRow, TWO + row + " " + behind + "\n")

    def test_another_word_in_the_place_of_basin_or_pump(self):
        for word in ("side", "lift", "plain", "Basin", "pumps", "", "1", "low"):
            self.refused(BadRow, TWO + f"lock gate high low 4 {word} 2\n")

    def test_no_row_of_a_reach(self):
        for text in ("", "\n", "\n\n\n", "night", "night\n", "night\n" * 6, "\nnight\n\nnight\n"):
            self.refused(BadRow, text)


class Refusals(Case):
    def test_twice(self):
        self.refused(Twice, POND + POND)
        self.refused(Twice, POND + "reach pool 0 9 1 3 pond\nreach pond 0 9 1 3 pool\n")
        self.refused(Twice, TWO + "lock gate high low 4\nlock gate high low 9 basin 2\n")
        self.refused(Twice, TWO + "lock gate high low 4\nlock mill high low 4\nlock gate high low 4\n")
        self.refused(Twice, TWO + "lock sea high low 4\nlock sea high low 4\n")
        self.refused(Twice, TWO + "night low 1 2 low 1 2\n")
        self.refused(Twice, TWO + "night low 1 2 high 3 4 low 5 6\n")
        self.refused(Twice, TWO + "night low 0 0 low 0 0\n")
        self.assertEqual(len(canal_of(TWO + "night low 1 2\nnight low 1 2\n").nights), 2)

    def test_a_target_that_is_not_told_ahead(self):
        self.refused(Unknown, "reach pond 0 9 1 3 pool\n")
        self.refused(Unknown, "reach pond 0 9 1 3 pond\n")
        self.refused(Unknown, "reach pond 0 9 1 3 pool\nreach pool 0 9 1 3 sea\n")
        self.refused(Unknown, TWO + "lock gate high low 4\nreach top 0 9 1 3 gate\n")
        self.refused(Unknown, "reach millpond 0 9 1 3 sea\nreach pool 0 9 1 3 mill\n")
        self.refused(Unknown, POND + "reach pool 0 9 1 3 sky\n")

    def test_a_locks_reach_that_is_not_told_ahead(self):
        for words in ("top low 4", "high deep 4", "top deep 4", "high sea 4", "sea low 4", "gate low 4", "high gate 4",
                      "top low 4 pump 2"):
            row = "lock gate " + words
            self.refused(Unknown, TWO + row + "\n")
            self.refused(Unknown, TWO + row + "\n" + "reach top 0 9 1 3 sea\nreach deep 0 9 1 3 sea\n")
        self.refused(Unknown, "lock gate high low 4\n" + TWO)
        self.refused(Unknown, "lock gate sea sea 4\n")

    def test_a_nights_reach_that_is_not_told_ahead(self):
        self.refused(Unknown, "night low 1 2\n" + TWO)
        self.refused(Unknown, "night low 0 0\n" + TWO)
        self.refused(Unknown, TWO + "night top 1 2\nreach top 0 9 1 3 sea\n")
        self.refused(Unknown, TWO + "night low 1 2 top 1 2\n")
        self.refused(Unknown, TWO + "night sea 1 2\n")
        self.refused(Unknown, TWO + "lock gate high low 4\nnight gate 1 2\n")
        self.refused(Unknown, "night pond 1 2\n")

    def test_a_ninth_reach_a_ninth_lock_and_a_seventh_night(self):
        self.refused(TooMany, reaches(8) + "reach ninth 0 9 1 3 sea\n")
        self.refused(TooMany, reaches(2) + locks(8) + "lock ninth b a 4\n")
        self.refused(TooMany, POND + "night\n" * 7)
        self.refused(TooMany, "night\n" * 7 + POND)
        self.refused(TooMany, "night\n" * 7)

    def test_each_kind_is_counted_by_itself(self):
        self.refused(TooMany, reaches(8) + locks(8) + "night\n" * 6 + "reach ninth 0 9 1 3 sea\n")
        self.refused(TooMany, reaches(8) + locks(8) + "night\n" * 6 + "lock ninth b a 4\n")
        self.refused(TooMany, reaches(8) + locks(8) + "night\n" * 6 + "night\n")
        self.assertEqual(len(canal_of(reaches(8) + locks(8)).locks), 8)
        self.assertEqual(len(canal_of(reaches(8) + "night\n" * 6).nights), 6)

    def test_refusals_stay_themselves(self):
        for text in (POND + POND, "reach pond 0 9 1 3 pool\n"):
            for turn in range(2):
                with self.assertRaises((Twice, Unknown)):
                    canal_of(text)
        self.tells(POND, (("pond", 0, 10, 1, 4, -1),), (), ())


ORDER = (BadRow, Twice, Unknown, BadNumber, TooMany)


def reach_with(faults):
    """A text whose last row, one of a reach, has just these faults."""
    ahead = reaches(8 if TooMany in faults else 7)
    words = ["reach", "a" if Twice in faults else "new", "0", "9", "0" if BadNumber in faults else "1"]
    words += ["x" if BadRow in faults else "3", "top" if Unknown in faults else "sea"]
    return ahead + " ".join(words) + "\n"


def lock_with(faults):
    ahead = reaches(3) + locks(8 if TooMany in faults else 7)
    words = ["lock", "la" if Twice in faults else "new", "top" if Unknown in faults else "b", "a"]
    words += ["0" if BadNumber in faults else "4", "basin", "x" if BadRow in faults else "2"]
    return ahead + " ".join(words) + "\n"


def night_with(faults):
    ahead = reaches(3) + "night\n" * (6 if TooMany in faults else 5)
    words = ["night", "a", "1", "2", "a" if Twice in faults else "b", "1", "2"]
    words += ["top" if Unknown in faults else "c", "x" if BadRow in faults else "1", "2"]
    return ahead + " ".join(words) + "\n"


class SeveralInOneRow(Case):
    def each_set(self, text_with, possible):
        self.assertEqual(type(canal_of(text_with(()))), Canal)
        for many in range(1, len(possible) + 1):
            for faults in itertools.combinations(possible, many):
                self.refused(faults[0], text_with(faults))

    def test_reach(self):
        self.each_set(reach_with, ORDER)

    def test_lock(self):
        self.each_set(lock_with, ORDER)

    def test_night(self):
        self.each_set(night_with, (BadRow, Twice, Unknown, TooMany))

    def test_every_form_of_a_bad_row_ahead_of_every_other_reason(self):
        for row in ("reach a 9 0 0 3 top x", "reach a 9 0 0 3", "reach a 9 0 0 3 Top", "reach a 9 0 0 03 top",
                    "reach sea 9 0 0 3 top", "reach A 9 0 0 3 top"):
            self.refused(BadRow, reaches(8) + row + "\n")
        for row in ("lock la top a 0 basin", "lock la top a 0 side 0", "lock la top a 0 basin 00", "lock la top A 0",
                    "lock la a a", "lock la top top 0 basin 0 0"):
            self.refused(BadRow, reaches(2) + locks(8) + row + "\n")
        for row in ("night top 1 2 top", "night top 1 2 top 1", "night a 1 2 a 1 -2", "night top 1 2 Top 1 2"):
            self.refused(BadRow, POND + "night\n" * 6 + row + "\n")

    def test_unknown_ahead_of_each_bad_number(self):
        self.refused(Unknown, "reach pond 10 9 1 3 pool\n")
        self.refused(Unknown, "reach pond 0 9 10 3 pool\n")
        for row in ("lock gate top low 0", "lock gate high top 0", "lock gate top top 4", "lock gate top low 4 pump 5"):
            self.refused(Unknown, TWO + row + "\n")

    def test_a_night_with_an_unknown_name_twice(self):
        self.refused(Twice, TWO + "night top 1 2 top 1 2\n")
        self.refused(Twice, TWO + "night sea 1 2 low 1 2 sea 1 2\n")


class SeveralBadRows(Case):
    AHEAD = reaches(8) + locks(7) + "night\n" * 5
    # A row for each refusal, behind AHEAD, where TooMany is due to a ninth reach.
    BAD = (
        (BadRow, "reach new 0 9 1 3\n"), (Twice, "lock la b a 4\n"), (Unknown, "night top 1 2\n"),
        (BadNumber, "lock new a b 4\n"), (TooMany, "reach new 0 9 1 3 sea\n"), (BadRow, " \n"),
        (Unknown, "lock new top a 4\n"), (Twice, "night a 1 2 a 1 2\n"), (BadNumber, "lock new b a 0\n"),
    )

    def test_the_first_one_told_comes_out(self):
        for first, row in self.BAD:
            self.refused(first, self.AHEAD + row)
            for second, other in self.BAD:
                self.refused(first, self.AHEAD + row + other)
                self.refused(first, self.AHEAD + row + "\nnight\n" + other)

    def test_ahead_of_what_is_due_at_the_texts_end(self):
        self.refused(Unknown, "night\nnight pond 1 2\n")
        self.refused(TooMany, "night\n" * 7)
        self.refused(Unknown, "lock gate b a 4\n")
        self.refused(Twice, "night\nnight pond 1 2 pond 1 2\n")

    def test_what_a_later_row_tells_does_not_mend_an_earlier_one(self):
        self.refused(Unknown, "reach high 0 9 1 3 low\nreach low 0 9 1 3 sea\n")
        self.refused(Unknown, "lock gate b a 4\n" + reaches(2))


if __name__ == "__main__":
    unittest.main()
