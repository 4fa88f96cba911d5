"""7.1 and 7.4 (and 0.1, 0.3): what a book keeps: boats, a state, pours, words and entries; and copies of a book."""

import copy
import unittest

from lockhouse.book import Book
from lockhouse.reading import canal_of
from tests.helpers import DOWN, FAR, FORETOLD, SECOND, STAIR, STAIR_START, UP, book_behind, stands, told


class AtTheBeginning(unittest.TestCase):
    def test_no_boat_and_nothing_done(self):
        book = book_behind()
        self.assertEqual(told(book.canal()), told(canal_of(STAIR)))
        self.assertEqual(book.state(), (0, STAIR_START, ()))
        for kept in (book.names(), book.ways(), book.ledger(), book.gatework(), book.entries()):
            self.assertEqual(kept, [])

    def test_a_canal_whose_water_settles_at_the_beginning(self):
        book = book_behind(text="reach a 0 10 1 8 sea\nreach b 0 10 1 15 a\n")
        self.assertEqual(book.state(), (0, (10, 10, 3, 0), ()))
        self.assertEqual(book.ledger(), [])

    def test_kinds(self):
        book = book_behind(UP, ("pass", "x"), ("rain", "a", 1))
        for kept in (book.names(), book.ways(), book.ledger(), book.gatework(), book.entries()):
            self.assertIs(type(kept), list)
        self.assertEqual([type(part) for part in book.state()], [int, tuple, tuple])
        self.assertEqual([type(part) for part in book.gatework()[0]], [str, list])
        self.assertTrue(all(type(pour) is tuple for pour in book.ledger()))
        behind = book.behind(("let", "p"))
        self.assertEqual([type(behind)] + [type(part) for part in behind], [tuple, list, tuple])


class Copies(unittest.TestCase):
    ROW = (UP, ("pass", "x"), FAR, ("rain", "c", 30), ("let", "p"), ("night", FORETOLD), ("take", "a", 2))

    def test_a_copy_stands_alike(self):
        book = book_behind(*self.ROW)
        twin = book.copied()
        self.assertIs(type(twin), Book)
        self.assertEqual(stands(twin), stands(book))
        self.assertEqual(stands(book_behind().copied()), stands(book_behind()))

    def test_entries_done_in_either_one(self):
        for entry in (DOWN, ("pass", "y"), ("night", SECOND), ("take", "c", 5), ("rain", "c", 5)):
            book = book_behind(*self.ROW)
            twin = book.copied()
            kept = stands(book)
            twin.do(entry)
            self.assertEqual(stands(book), kept)
            self.assertEqual(stands(twin), stands(book_behind(*self.ROW, entry)))
            twin = book.copied()
            book.do(entry)
            self.assertEqual(stands(twin), kept)
            self.assertEqual(stands(book), stands(book_behind(*self.ROW, entry)))

    def test_a_copy_of_a_copy(self):
        book = book_behind(*self.ROW)
        first = book.copied()
        second = first.copied()
        first.do(DOWN)
        self.assertEqual(stands(second), stands(book))
        second.do(("pass", "y"))
        self.assertEqual(stands(first), stands(book_behind(*self.ROW, DOWN)))

    def test_lists_that_were_told_are_the_askers_own(self):
        book = book_behind(*self.ROW)
        kept = stands(book)
        behind = book.behind(DOWN)
        for changed in (book.names(), book.ways(), book.ledger(), book.gatework(), book.entries(), behind[0]):
            changed.append("more")
            changed.reverse()
        book.gatework()[0][1].append("more")
        book.behind(("pass", "y"))[0].clear()
        self.assertEqual(stands(book), kept)
        self.assertEqual(book.behind(DOWN)[0], kept[2] + [(2, ((2, "down"), (0, "down")))])

    def test_lists_that_were_told_stay_as_they_were(self):
        book = book_behind(*self.ROW)
        lists = (book.names(), book.ways(), book.ledger(), book.gatework(), book.entries())
        behind = (book.behind(DOWN), book.behind(("pass", "y")))
        kept = copy.deepcopy((lists, behind))
        for entry in (("pass", "y"), DOWN, ("let", "p"), ("night", SECOND), ("rain", "a", 9)):
            book.do(entry)
        self.assertEqual((lists, behind), kept)
        for now, before in zip((book.names(), book.ways(), book.ledger(), book.gatework(), book.entries()), lists):
            self.assertGreater(len(now), len(before))

    def test_words_of_a_copy_are_its_own(self):
        book = book_behind(*self.ROW)
        twin = book.copied()
        twin.gatework()[0][1].clear()
        self.assertEqual(book.gatework(), twin.gatework())
        self.assertNotEqual(book.gatework()[0][1], [])

    def test_the_canal_stays_as_it_was(self):
        canal = canal_of(STAIR)
        book = Book(canal)
        for entry in self.ROW:
            book.do(entry)
        self.assertEqual(told(canal), told(canal_of(STAIR)))

    def test_two_books_of_one_canal(self):
        canal = canal_of(STAIR)
        one, other = Book(canal), Book(canal)
        one.do(UP)
        one.do(("pass", "x"))
        self.assertEqual(stands(other), stands(book_behind()))


if __name__ == "__main__":
    unittest.main()
