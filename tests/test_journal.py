"""8.1 and 8.2 (and 0.3, 0.5): entries written as rows of words, and rows read to entries."""

import copy
import random
import re
import unittest

from lockhouse.errors import BadRow, CanalError
from lockhouse.journal import entries_of, entry_of, written
from tests.helpers import FORETOLD, GREATEST, NAMES, UP, some_books, some_entry

# A row for each of the six kinds, with the entry that it writes.
ROWS = (
    ("come x a p up", ("come", "x", "a", (("p", "up"),))),
    ("come y a p up a up p down", ("come", "y", "a", (("p", "up"), ("a", "up"), ("p", "down")))),
    ("pass x", ("pass", "x")),
    ("let p", ("let", "p")),
    ("night 3 1 0 2 0 0", ("night", ((3, 1), (0, 2), (0, 0)))),
    ("take b 7", ("take", "b", 7)),
    ("rain c 60", ("rain", "c", 60)),
)

# What Python itself takes for a row's end or for a blank, beyond the line feed and the blank.
STRANGE_BLANKS = ("\t", "\r", "\x0b", "\x0c", "\x1c", "\x1d", "\x1e", "\x1f", "\x85", "\xa0", "\u2028", "\u2029",
                  "\u3000", "\ufeff", "\x00")

# The rows of 8.1 and the words of 4.4 by another road than the one that the program takes.
NAME = "[a-z]{1,12}"
NUMBER = "(?:0|[1-9][0-9]{0,11})"
ENTRY = re.compile(
    f"come {NAME} {NAME}(?: {NAME} (?:up|down)){{1,8}}|(?:pass|let) {NAME}|"
    f"night(?: {NUMBER} {NUMBER}){{1,8}}|(?:take|rain) {NAME} {NUMBER}"
)


def come_row(many, step="p up"):
    return "come x a" + (" " + step) * many


def night_row(many, pair="3 1"):
    return "night" + (" " + pair) * many


class Case(unittest.TestCase):
    def refused(self, call, text):
        with self.assertRaises(CanalError) as caught:
            call(text)
        self.assertIs(type(caught.exception), BadRow, text)

    def bad(self, row):
        """A row of its own is refused, and a text with it, wherever it stands."""
        with self.subTest(row=row[:60]):
            self.refused(entry_of, row)
            if row != "":
                for text in (row, row + "\n", "pass x\n" + row, "pass x\n" + row + "\nlet p\n", row + "\nlet p"):
                    self.refused(entries_of, text)

    def read(self, row, entry):
        """A row is read to an entry, and the entry is written as that row."""
        with self.subTest(row=row[:60]):
            self.assertEqual(entry_of(row), entry)
            self.assertEqual(entries_of(row + "\n"), [entry])
            self.assertEqual(written([entry]), row + "\n")


class Written(Case):
    def test_no_entries(self):
        self.assertEqual(written([]), "")

    def test_each_kind(self):
        for row, entry in ROWS:
            self.assertEqual(written([entry]), row + "\n")

    def test_several_in_their_order(self):
        self.assertEqual(written([entry for _, entry in ROWS]), "".join(row + "\n" for row, _ in ROWS))
        turned = list(reversed(ROWS))
        self.assertEqual(written([entry for _, entry in turned]), "".join(row + "\n" for row, _ in turned))

    def test_the_same_entry_twice(self):
        self.assertEqual(written([("pass", "x"), ("pass", "x")]), "pass x\npass x\n")

    def test_the_list_stays_as_it_was(self):
        entries = [entry for _, entry in ROWS]
        kept = copy.deepcopy(entries)
        first = written(entries)
        self.assertEqual((entries, written(entries)), (kept, first))

    def test_a_text_is_told(self):
        self.assertIs(type(written([])), str)
        self.assertIs(type(written([UP])), str)


class Read(Case):
    def test_each_kind(self):
        for row, entry in ROWS:
            self.read(row, entry)

    def test_kinds_of_values(self):
        come, night, take = entry_of("come x a p up"), entry_of("night 3 1"), entry_of("take b 7")
        self.assertEqual([type(part) for part in come], [str, str, str, tuple])
        self.assertEqual((type(come[3][0]), [type(part) for part in come[3][0]]), (tuple, [str, str]))
        self.assertEqual([type(part) for part in night], [str, tuple])
        self.assertEqual((type(night[1][0]), [type(part) for part in night[1][0]]), (tuple, [int, int]))
        self.assertEqual([type(part) for part in take], [str, str, int])
        for row, _ in ROWS:
            self.assertIs(type(entry_of(row)), tuple)
        self.assertIs(type(entries_of("")), list)
        self.assertIs(type(entries_of("pass x")), list)

    def test_a_bad_first_word(self):
        for word in ("comes", "com", "passes", "lets", "nights", "takes", "rains", "work", "plan", "waters", "advice",
                     "knots", "keeper", "reach", "lock", "x", "0", "out"):
            for behind in ("", " x", " x 1", " x a p up", " 1 1"):
                self.bad(word + behind)

    def test_pairs_of_a_come(self):
        for many in range(1, 9):
            self.read(come_row(many), ("come", "x", "a", (("p", "up"),) * many))
            self.read(come_row(many, "q down"), ("come", "x", "a", (("q", "down"),) * many))
        for many in (0, 9, 10, 100):
            self.bad(come_row(many))

    def test_pairs_of_a_night(self):
        for many in range(1, 9):
            self.read(night_row(many), ("night", ((3, 1),) * many))
        for many in (0, 9, 10, 100):
            self.bad(night_row(many))

    def test_half_a_pair(self):
        for many in (0, 1, 7, 8):
            for word in ("p", "up"):
                self.bad(come_row(many) + " " + word)
            self.bad(night_row(many) + " 3")

    def test_too_few_words_and_too_many(self):
        for row in ("come", "come x", "come x a", "come x a p", "pass", "pass x y", "pass x 1", "let", "let p q",
                    "night", "night 1", "take", "take b", "take b 7 7", "take b c 7", "take 7", "rain", "rain c",
                    "rain c 60 c", "rain 60", "rain c 60 c 60"):
            self.bad(row)

    def test_words_in_the_wrong_order(self):
        for row in ("come x a up p", "come x a p up up p", "take 7 b", "rain 60 c", "x pass", "p let", "a come x p up"):
            self.bad(row)

    def test_a_way_that_is_none(self):
        for word in ("Up", "UP", "dawn", "upp", "u", "high", "low", "x", "1", "updown", "downs", ""):
            self.bad("come x a p " + word)
            self.bad("come x a p up q " + word)
            self.bad("come x a p " + word + " q up")

    def test_names_of_one_sign_and_of_the_most(self):
        for name in ("a", "z", "abcdefghijkl", "opqrstuvwxyz"):
            self.read(f"come {name} {name} {name} up", ("come", name, name, ((name, "up"),)))
            self.read(f"pass {name}", ("pass", name))
            self.read(f"let {name}", ("let", name))
            self.read(f"take {name} 1", ("take", name, 1))
            self.read(f"rain {name} 1", ("rain", name, 1))

    def test_words_that_are_no_names(self):
        for name in ("", "abcdefghijklm", "A", "Mill", "milL", "x1", "1", "0", "x-y", "x_", "\xe4", "\u0430", "x.",
                     "\uff41", "x,"):
            for row in ("come {} a p up", "come x {} p up", "come x a {} up", "come x a p up {} down", "pass {}",
                        "let {}", "take {} 1", "rain {} 1"):
                self.bad(row.format(name))

    def test_words_of_rows_are_names_too(self):
        for name in ("come", "pass", "let", "night", "take", "rain", "up", "down", "sea", "keeper", "work", "plan"):
            self.read(f"come {name} {name} {name} down", ("come", name, name, ((name, "down"),)))
            self.read(f"pass {name}", ("pass", name))
            self.read(f"let {name}", ("let", name))
            self.read(f"rain {name} 0", ("rain", name, 0))

    def test_numbers(self):
        for number in (0, 1, 9, 10, 907, 100000000000, GREATEST):
            self.read(f"take b {number}", ("take", "b", number))
            self.read(f"rain b {number}", ("rain", "b", number))
            self.read(f"night {number} 0", ("night", ((number, 0),)))
            self.read(f"night 5 5 0 {number}", ("night", ((5, 5), (0, number))))

    def test_words_that_are_no_numbers(self):
        for word in ("1000000000000", "9999999999999", "00", "01", "007", "000000000000", "+1", "-1", "-0", "+0", "1_0",
                     "1.0", "1e3", "0x1", "x", "", "\u0661", "\uff11", "\xb2", "True", "1,"):
            for row in ("take b {}", "rain b {}", "night {} 1", "night 1 {}", "night 1 1 {} 1", "night 1 1 1 {}"):
                self.bad(row.format(word))

    def test_great_letters(self):
        for row, _ in ROWS:
            words = row.split(" ")
            for at, word in enumerate(words):
                if word.isalpha():
                    for great in (word.upper(), word.capitalize()):
                        self.bad(" ".join(words[:at] + [great] + words[at + 1:]))

    def test_blanks(self):
        for row, _ in ROWS:
            self.bad(" " + row)
            self.bad(row + " ")
            for at in [at for at, sign in enumerate(row) if sign == " "]:
                self.bad(row[:at] + " " + row[at:])
                self.bad(row[:at] + row[at + 1:])
        for row in (" ", "  ", "\t", "\r", "\x00"):
            self.bad(row)

    def test_other_signs_for_a_blank(self):
        for row, _ in ROWS:
            for sign in STRANGE_BLANKS:
                self.bad(sign + row)
                self.bad(row + sign)
                for at in [at for at, found in enumerate(row) if found == " "]:
                    self.bad(row[:at] + sign + row[at + 1:])

    def test_an_empty_row_of_its_own(self):
        self.refused(entry_of, "")

    def test_what_a_word_stands_for_is_not_asked(self):
        # No such reach or lock, a way that is not linked, the sea, and a night for eight reaches.
        for row in ("come x nowhere none down none down", "come x sea sea up", "pass nobody", "let sea", "take sea 1",
                    night_row(8)):
            self.assertEqual(written([entry_of(row)]), row + "\n")


class Texts(Case):
    def test_nothing_at_all(self):
        for text in ("", "\n", "\n\n\n"):
            self.assertEqual(entries_of(text), [])

    def test_rows_in_their_order(self):
        text = "".join(row + "\n" for row, _ in ROWS)
        self.assertEqual(entries_of(text), [entry for _, entry in ROWS])

    def test_without_a_line_feed_at_the_end(self):
        text = "\n".join(row for row, _ in ROWS)
        self.assertEqual(entries_of(text), [entry for _, entry in ROWS])
        self.assertEqual(entries_of("pass x"), [("pass", "x")])

    def test_empty_rows(self):
        wanted = [("pass", "x"), ("let", "p")]
        for text in ("\npass x\nlet p\n", "\n\n\npass x\nlet p", "pass x\n\nlet p\n", "pass x\n\n\n\nlet p",
                     "pass x\nlet p\n\n", "\n\npass x\n\n\nlet p\n\n\n"):
            self.assertEqual(entries_of(text), wanted)

    def test_a_row_of_one_blank_is_not_empty(self):
        for text in (" ", " \n", "pass x\n \nlet p\n", "\n \n", "pass x\n ", "pass x\n\t\nlet p"):
            self.refused(entries_of, text)

    def test_a_bad_row_first_in_the_middle_and_last(self):
        good = [row for row, _ in ROWS]
        for bad in ("pass", "pass X", "come x a", "night", "take b 01", "x", " ", "let p "):
            for at in range(len(good) + 1):
                self.refused(entries_of, "\n".join(good[:at] + [bad] + good[at:]))
                self.refused(entries_of, "\n".join(good[:at] + [bad] + good[at:]) + "\n")

    def test_line_feeds_alone_part_rows(self):
        for sign in STRANGE_BLANKS:
            self.refused(entries_of, "pass x" + sign + "let p\n")
        self.refused(entries_of, "pass x\r\nlet p\r\n")

    def test_a_row_with_a_line_feed_is_no_row(self):
        for row in ("pass x\n", "\npass x", "pass\nx", "\n"):
            self.refused(entry_of, row)

    def test_what_is_told_is_the_askers_own(self):
        text = "pass x\nlet p\n"
        first = entries_of(text)
        first.append(UP)
        first[0] = UP
        self.assertEqual(entries_of(text), [("pass", "x"), ("let", "p")])
        kept = entries_of(text)
        entries_of("night 1 1\n")
        self.assertEqual(kept, [("pass", "x"), ("let", "p")])


class Again(Case):
    """What is written is read to the same entries, and the text is one and the same."""

    def some(self, source):
        name = lambda: "".join(source.choice("abcxyz") for _ in range(source.choice((1, 2, 11, 12))))
        number = lambda: source.choice((0, 1, 10, GREATEST, source.randrange(GREATEST)))
        pairs = source.randrange(1, 9)
        return source.choice((
            ("come", name(), name(), tuple((name(), source.choice(("up", "down"))) for _ in range(pairs))),
            ("night", tuple((number(), number()) for _ in range(pairs))),
            (source.choice(("pass", "let")), name()),
            (source.choice(("take", "rain")), name(), number()),
        ))

    def test_written_and_read(self):
        source = random.Random(81)
        for _ in range(300):
            entries = [self.some(source) for _ in range(source.randrange(0, 12))]
            text = written(entries)
            self.assertEqual(entries_of(text), entries)
            self.assertEqual(written(entries_of(text)), text)
            self.assertEqual(written(copy.deepcopy(entries)), text)
            self.assertEqual([entry_of(row) for row in text.split("\n")[:-1]], entries)

    def test_unlike_entries_have_unlike_texts(self):
        source = random.Random(82)
        entries = [self.some(source) for _ in range(2000)]
        self.assertEqual(len({written([entry]) for entry in entries}), len(set(entries)))

    def test_what_books_have_done(self):
        for book, source in some_books(60, 83):
            for _ in range(15):
                try:
                    book.do(some_entry(source, book))
                except CanalError:
                    pass
            self.assertEqual(entries_of(written(book.entries())), book.entries())

    def test_numbers_told_are_no_true_and_no_false(self):
        entry = entry_of("night 0 1 1 0")
        self.assertTrue(all(type(number) is int for pair in entry[1] for number in pair))


class Every(Case):
    """Rows of all sorts set beside a written form of 8.1."""

    WORDS = ("come", "pass", "let", "night", "take", "rain", "up", "down", "x", "p", "sea", "0", "1", "07", "-1", "X",
             "", str(GREATEST), str(GREATEST + 1), "abcdefghijkl", "abcdefghijklm", "1x", "x\t", "Up")

    def row(self, source):
        if source.random() < 0.3:
            return " ".join(source.choice(self.WORDS) for _ in range(source.randrange(1, 8)))
        words = source.choice(ROWS)[0].split(" ")
        for _ in range(source.randrange(0, 3)):
            at = source.randrange(len(words))
            words[at:at + source.choice((0, 1, 1))] = source.choice(([source.choice(self.WORDS)], [], [NAMES[0], "up"]))
            words = words or ["x"]
        return " ".join(words)

    def test_many_rows(self):
        source = random.Random(84)
        seen = {True: 0, False: 0}
        for _ in range(6000):
            row = self.row(source)
            good = ENTRY.fullmatch(row) is not None
            seen[good] += 1
            if good:
                self.assertEqual(written([entry_of(row)]), row + "\n")
            else:
                self.refused(entry_of, row)
        self.assertGreater(min(seen.values()), 1000)

    def test_weather_of_the_stair(self):
        self.read("night 3 1 0 2 0 0", ("night", FORETOLD))


if __name__ == "__main__":
    unittest.main()
