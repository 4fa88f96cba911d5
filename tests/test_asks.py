"""9.1 and 9.4 (and 0.3, 0.5): how the text of a house is parted, the keeper's row, and the row that asks for advice."""

import random
import unittest

from lockhouse.asks import lock_asked, most_of, parted
from lockhouse.errors import BadRow, CanalError
from tests.helpers import STAIR

# What Python itself takes for a row's end or for a blank, beyond the line feed and the blank.
STRANGE_BLANKS = ("\t", "\r", "\x0b", "\x0c", "\x1c", "\x1e", "\x85", "\xa0", "\u2028", "\u3000", "\x00")

# Rows that nearly begin with the word keeper.
NEARLY = ["keepers", "keepers 5", "Keeper", "KEEPER 5", "keepe", "eeper", " keeper", "  keeper 5", "keeper1",
          "keeper5 5", "keeper,", "the keeper", "reach keeper 0 9 1 5 sea", "lock keeper b a 5", "night keeper 1 1",
          "_keeper"]
NEARLY += ["keeper" + sign for sign in STRANGE_BLANKS] + ["keeper" + sign + "5" for sign in STRANGE_BLANKS]
NEARLY += [sign + "keeper" for sign in STRANGE_BLANKS]


class Parted(unittest.TestCase):
    def parts(self, text, canal, rows):
        with self.subTest(text=text):
            told = parted(text)
            self.assertEqual(told, (canal, rows))
            self.assertEqual([type(told)] + [type(part) for part in told], [tuple, str, list])

    def test_no_row_at_all(self):
        for text in ("", "\n", "\n\n\n"):
            self.parts(text, "", [])

    def test_no_row_begins_so(self):
        self.parts("reach a 0 9 1 5 sea\n", "reach a 0 9 1 5 sea\n", [])
        self.parts("x\ny\nwork", "x\ny\nwork\n", [])
        self.parts(STAIR, STAIR[1:], [])

    def test_the_first_row_does(self):
        self.parts("keeper", "", ["keeper"])
        self.parts("keeper\n", "", ["keeper"])
        self.parts("keeper 5\nwork\nplan\n", "", ["keeper 5", "work", "plan"])

    def test_a_later_row_does(self):
        self.parts("x\nkeeper\ny\n", "x\n", ["keeper", "y"])
        self.parts("x\ny z\nkeeper 9\nwork\nwork", "x\ny z\n", ["keeper 9", "work", "work"])
        self.parts(STAIR + "keeper\nplan\n", STAIR[1:], ["keeper", "plan"])

    def test_the_last_row_does(self):
        self.parts("x\ny\nkeeper", "x\ny\n", ["keeper"])

    def test_the_first_of_several_such_rows(self):
        self.parts("x\nkeeper\nkeeper 5\ny\nkeeper\n", "x\n", ["keeper", "keeper 5", "y", "keeper"])

    def test_rows_that_nearly_begin_so(self):
        for row in NEARLY:
            self.parts(row, row + "\n", [])
            self.parts(f"x\n{row}\ny\n", f"x\n{row}\ny\n", [])
            self.parts(f"{row}\nkeeper 5\n{row}\n", f"{row}\n", ["keeper 5", row])

    def test_what_stands_behind_the_word_is_not_asked_here(self):
        for row in ("keeper 0", "keeper 1001", "keeper x", "keeper ", "keeper  5", "keeper 5 5", "keeper 01"):
            self.parts(f"x\n{row}\ny\n", "x\n", [row, "y"])

    def test_empty_rows_everywhere(self):
        self.parts("\n\nx\n\n\ny\n\nkeeper 5\n\n\nwork\n\nplan\n\n\n", "x\ny\n", ["keeper 5", "work", "plan"])
        self.parts("\n\nkeeper", "", ["keeper"])
        self.parts("\nx\n\n", "x\n", [])

    def test_a_row_of_blanks_is_not_empty(self):
        self.parts(" \nkeeper\n  \n", " \n", ["keeper", "  "])
        self.parts("\t\n \n", "\t\n \n", [])

    def test_line_feeds_alone_part_rows(self):
        for sign in STRANGE_BLANKS:
            self.parts(f"x{sign}y\nkeeper\na{sign}b", f"x{sign}y\n", ["keeper", f"a{sign}b"])

    def test_what_is_told_is_the_askers_own(self):
        text = "x\nkeeper\nwork\n"
        parted(text)[1].clear()
        self.parts(text, "x\n", ["keeper", "work"])

    def test_nothing_is_lost(self):
        source = random.Random(91)
        rows = ["keeper", "keeper 5", "", "", "work", "reach a", " ", "keepers"]
        for _ in range(500):
            chosen = [source.choice(rows) for _ in range(source.randrange(0, 8))]
            canal, asked = parted("\n".join(chosen))
            kept = [row for row in chosen if row]
            self.assertEqual(canal.split("\n")[:-1] + asked, kept)
            self.assertTrue(canal == "" or canal.endswith("\n"))
            self.assertEqual(asked[:1], [row for row in kept if row in ("keeper", "keeper 5")][:1])


class Most(unittest.TestCase):
    def refused(self, row):
        with self.subTest(row=row):
            with self.assertRaises(CanalError) as caught:
                most_of(row)
            self.assertIs(type(caught.exception), BadRow)

    def test_none_is_told(self):
        self.assertEqual(most_of("keeper"), 200)

    def test_a_number(self):
        for most in (1, 2, 9, 10, 199, 200, 201, 999, 1000):
            self.assertEqual(most_of(f"keeper {most}"), most)
        self.assertEqual([most_of(f"keeper {most}") for most in range(1, 1001)], list(range(1, 1001)))
        self.assertIs(type(most_of("keeper 1")), int)

    def test_a_number_beyond_the_bounds(self):
        for most in (0, 1001, 1002, 9999, 10000, 999999999999, 1000000000000, -1):
            self.refused(f"keeper {most}")

    def test_a_word_that_is_no_number(self):
        for word in ("01", "00", "0200", "+1", "-1", "x", "200x", "2_0", "1.0", "1e2", "0x10", "\u0661", "\uff11",
                     "\xb2", "most", "keeper", "True"):
            self.refused("keeper " + word)

    def test_words_too_many(self):
        for row in ("keeper 1 1", "keeper 200 200", "keeper 5 x", "keeper x 5", "keeper keeper 5"):
            self.refused(row)

    def test_blanks_more(self):
        for row in ("keeper ", "keeper  ", "keeper  5", "keeper 5 ", " keeper", " keeper 5", "keeper 5  ", "keeper\t5",
                    "keeper\t", "keeper 5\t", "keeper 5\n", "keeper\n", "keeper 5\r"):
            self.refused(row)

    def test_other_rows(self):
        for row in ("", " ", "work", "5", "keepers", "keepers 5", "Keeper 5", "advice 5", "x keeper", "keeper5",
                    "eeper 5"):
            self.refused(row)


class Advice(unittest.TestCase):
    def test_a_name(self):
        for name in ("a", "mill", "sea", "advice", "keeper", "abcdefghijkl"):
            self.assertEqual(lock_asked("advice " + name), name)

    def test_other_rows(self):
        for row in ("advice", "advice ", "advice  a", "advice a ", " advice a", "advice a b", "advice A", "advice 1",
                    "advice abcdefghijklm", "advice a\n", "advice\ta", "", "work a", "keeper a"):
            with self.subTest(row=row):
                with self.assertRaises(CanalError) as caught:
                    lock_asked(row)
                self.assertIs(type(caught.exception), BadRow)


if __name__ == "__main__":
    unittest.main()
