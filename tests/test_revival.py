"""8.3 (and 0.3, 0.5, 6.4, 7.1 to 7.6, 7.8): books done anew and keepers revived from a canal and entries."""

import copy
import unittest

from lockhouse.book import Book
from lockhouse.errors import CanalError, TooWide, Torn
from lockhouse.journal import entries_of, written
from lockhouse.keeper import Keeper
from lockhouse.look import leads_home, look
from lockhouse.reading import canal_of
from lockhouse.revival import replayed, revived
from tests.helpers import (
    DOWN, FAR, FORETOLD, SECOND, STAIR, STAIR_START, UP, book_behind, some_books, some_entry, stands, told,
)

# Each kind of entry is among them.
ROW = [UP, ("pass", "x"), FAR, ("rain", "c", 30), ("let", "p"), ("night", FORETOLD), ("take", "a", 2), DOWN]

# Entries that are refused ahead of the row, behind it and anywhere within it.
REFUSED = (
    ("come", "X", "a", (("p", "up"),)), ("come", "w", "none", (("p", "up"),)), ("come", "w", "a", (("none", "up"),)),
    ("come", "w", "b", (("p", "up"),)), ("pass", "w"), ("let", "none"), ("take", "none", 0), ("rain", "none", 0),
    ("night", FORETOLD[:2]), ("night", ((0, 99), (0, 99), (0, 99))),
)

# Entries for which there is a word why not ahead of the row, behind it and anywhere within it.
NOT_NOW = (("let", "a"), ("let", "sea"), ("take", "a", 999), ("take", "c", 91))

# The high reach can give to one fill alone: where the boat down goes first, the boat up is doomed.
MILL = "reach a 0 50 1 10 sea\nreach b 4 50 1 14 a\nlock p b a 10\nnight\n"
UPWARD = ("come", "x", "a", (("p", "up"),))
DOWNWARD = ("come", "y", "b", (("p", "down"),))


def wide_text():
    return "reach a 0 900 9 500 sea\nreach b 0 900 9 500 a\n" + "".join(f"lock {name} b a 1\n" for name in "pqrstu")


def wide_entries():
    return [("come", name, "a", ((name, "up"),)) for name in "pqrstu"]


def states_looked_at(book):
    return sum(len(layer) for layer in look(book.canal(), book.ways(), book.state(), 1000)[-1])


class Case(unittest.TestCase):
    def torn(self, canal, entries, calls=(replayed, revived)):
        kept = (told(canal), copy.deepcopy(entries))
        for call in calls:
            with self.assertRaises(CanalError) as caught:
                call(canal, entries)
            self.assertIs(type(caught.exception), Torn, entries)
            self.assertEqual((told(canal), entries), kept)

    def stands_as(self, keeper, book):
        self.assertEqual(stands(keeper.book()), stands(book))
        self.assertIs(type(keeper.plan()), list)
        self.assertTrue(leads_home(book.canal(), book.ways(), book.state(), keeper.plan()))


class Replayed(Case):
    def test_no_entries(self):
        book = replayed(canal_of(STAIR), [])
        self.assertIs(type(book), Book)
        self.assertEqual(stands(book), stands(book_behind()))
        self.assertEqual(book.state(), (0, STAIR_START, ()))

    def test_entries_of_every_kind(self):
        for many in range(len(ROW) + 1):
            self.assertEqual(stands(replayed(canal_of(STAIR), ROW[:many])), stands(book_behind(*ROW[:many])))

    def test_the_last_state_may_be_doomed(self):
        book = replayed(canal_of(MILL), [UPWARD, DOWNWARD, ("pass", "y")])
        self.assertEqual(book.names(), ["x", "y"])
        self.assertEqual(look(book.canal(), book.ways(), book.state(), 1000)[0], "doomed")

    def test_an_entry_that_is_refused(self):
        for entry in REFUSED + (UP,):
            for at in range(len(ROW) + 1):
                if at > 0 or entry != UP:
                    self.torn(canal_of(STAIR), ROW[:at] + [entry] + ROW[at:])

    def test_an_entry_for_which_there_is_a_word_why_not(self):
        for entry in NOT_NOW:
            for at in range(len(ROW) + 1):
                self.torn(canal_of(STAIR), ROW[:at] + [entry] + ROW[at:])

    def test_each_word_why_not(self):
        stair = canal_of(STAIR)
        lies = ("come", "w", "b", (("p", "down"),))
        for row in (
            [lies, ("come", "v", "b", (("p", "down"),))], [lies, FAR, ("pass", "y")], [UP, ("pass", "x"), ("pass",
                                                                                                           "x")],
            [("let", "p")], [UP, ("take", "b", 26), ("pass", "x")], [("take", "b", 36)],
            [("night", FORETOLD), ("night", SECOND), ("night", SECOND)],
        ):
            self.assertNotEqual(book_behind(*row[:-1]).fault(row[-1]), "")
            replayed(stair, row[:-1])
            self.torn(stair, row)

    def test_too_many_boats(self):
        entries = [("come", name, "c", (("a", "down"),)) for name in "qrstuvwxyz"]
        self.assertEqual(len(replayed(canal_of(STAIR), entries[:9]).names()), 9)
        self.torn(canal_of(STAIR), entries, (replayed,))

    def test_two_bad_entries(self):
        self.torn(canal_of(STAIR), [("let", "p"), ("pass", "nobody")])
        self.torn(canal_of(STAIR), [("pass", "nobody"), ("let", "p")])

    def test_entries_that_belong_to_another_canal(self):
        self.torn(canal_of(MILL), ROW)
        self.torn(canal_of("reach a 0 9 1 5 sea\n"), [UP])

    def test_a_drier_night(self):
        self.torn(canal_of(STAIR), [("night", ((2, 1), (0, 2), (0, 0)))])
        self.torn(canal_of(STAIR), [("night", FORETOLD), ("night", FORETOLD)])


class Revived(Case):
    def test_no_entries(self):
        keeper = revived(canal_of(STAIR), [])
        self.assertIs(type(keeper), Keeper)
        self.stands_as(keeper, book_behind())
        self.assertEqual((keeper.plan(), keeper.work()), ([], ("not", "done")))
        self.assertEqual(stands(revived(canal_of(STAIR), [], 1).book()), stands(book_behind()))

    def test_entries_that_a_book_has_done(self):
        for many in range(len(ROW) + 1):
            book = book_behind(*ROW[:many])
            self.stands_as(revived(canal_of(STAIR), book.entries(), 1000), book)

    def test_entries_that_a_keeper_has_done(self):
        keeper = Keeper(book_behind(text=MILL))
        for entry in (UPWARD, DOWNWARD, ("pass", "y"), ("rain", "b", 3), ("let", "p")):
            keeper.wish(entry)
        keeper.work()
        twin = revived(canal_of(MILL), keeper.book().entries())
        self.stands_as(twin, keeper.book())
        self.assertEqual(twin.book().entries(), [UPWARD, DOWNWARD, ("rain", "b", 3), ("pass", "x")])
        self.assertEqual(twin.work(), ("yes", []))
        self.assertEqual(twin.work(), ("not", "done"))

    def test_entries_are_done_without_a_look(self):
        # On the way there is a state that a look with this bound would refuse; behind the last entry there is none.
        entries = wide_entries()
        book = book_behind(*entries, text=wide_text())
        self.assertGreater(states_looked_at(book), 6)
        entries = entries + [("pass", name) for name in "pqrstu"]
        self.stands_as(revived(canal_of(wide_text()), entries, 1), book_behind(*entries, text=wide_text()))

    def test_a_state_that_is_doomed(self):
        for row in ([UPWARD, DOWNWARD, ("pass", "y")], [UPWARD, DOWNWARD, ("take", "b", 1)]):
            self.torn(canal_of(MILL), row, (revived,))

    def test_a_doomed_state_on_the_way(self):
        # The rain brings what the boat down took: the state behind all entries alone is asked.
        entries = [UPWARD, DOWNWARD, ("pass", "y"), ("rain", "b", 10)]
        self.torn(canal_of(MILL), entries[:3], (revived,))
        keeper = revived(canal_of(MILL), entries)
        self.stands_as(keeper, book_behind(*entries, text=MILL))
        self.assertEqual(keeper.plan(), [("pass", 0)])

    def test_a_bound_that_is_too_small(self):
        entries = [UPWARD, DOWNWARD]
        many = states_looked_at(book_behind(*entries, text=MILL))
        self.stands_as(revived(canal_of(MILL), entries, many), book_behind(*entries, text=MILL))
        for most in (many - 1, 1):
            with self.assertRaises(CanalError) as caught:
                revived(canal_of(MILL), entries, most)
            self.assertIs(type(caught.exception), TooWide)
        self.assertEqual(entries, [UPWARD, DOWNWARD])

    def test_a_doomed_state_whose_look_is_too_wide(self):
        entries = [UPWARD, DOWNWARD, ("pass", "y")]
        self.assertRaises(TooWide, revived, canal_of(MILL), entries, 1)
        self.assertRaises(Torn, revived, canal_of(MILL), entries, 1000)

    def test_a_bad_entry_comes_ahead_of_the_look(self):
        for entry in (("pass", "nobody"), ("let", "p")):
            with self.assertRaises(CanalError) as caught:
                revived(canal_of(MILL), [UPWARD, DOWNWARD, entry], 1)
            self.assertIs(type(caught.exception), Torn)

    def test_no_bound_told(self):
        bounds = []
        for many in range(1, 7):
            entries = wide_entries()[:many]
            bounds.append(states_looked_at(book_behind(*entries, text=wide_text())))
            if bounds[-1] > 200:
                self.assertRaises(TooWide, revived, canal_of(wide_text()), entries)
            else:
                self.stands_as(revived(canal_of(wide_text()), entries), book_behind(*entries, text=wide_text()))
        self.assertTrue(bounds[0] <= 200 < bounds[-1])

    def test_the_bound_is_the_keepers_own_from_then_on(self):
        keeper = revived(canal_of(MILL), [], 1)
        self.assertRaises(TooWide, keeper.wish, UPWARD)
        self.assertEqual(revived(canal_of(MILL), [], 10).wish(UPWARD), ("yes", [("pass", 0)]))

    def test_too_wide_where_the_other_keeper_lives_on(self):
        # By its plan the first keeper needs no look behind the rain; the revived one needs one, and it is wider.
        text = "reach a 0 90 2 50 sea\nreach b 0 90 2 12 a\nreach c 0 90 1 0 b\nlock p b a 10\nlock q c b 10\n"
        book = book_behind(UPWARD, ("come", "y", "b", (("q", "up"), ("q", "down"))), ("rain", "c", 10), text=text)
        many = states_looked_at(book)
        keeper = Keeper(book, many)
        keeper.wish(("rain", "c", 80))
        keeper.wish(("rain", "b", 80))
        entries = keeper.book().entries()
        self.assertRaises(TooWide, revived, canal_of(text), entries, many)
        self.stands_as(revived(canal_of(text), entries, 1000), keeper.book())
        self.assertEqual(keeper.work()[0], "yes")


class Own(Case):
    def test_the_list_stays_as_it_was_and_is_kept_as_a_copy(self):
        canal = canal_of(STAIR)
        entries = list(ROW)
        book, keeper = replayed(canal, entries), revived(canal, entries, 1000)
        self.assertEqual(entries, ROW)
        kept = (stands(book), stands(keeper.book()), keeper.plan())
        entries.clear()
        self.assertEqual((stands(book), stands(keeper.book()), keeper.plan()), kept)
        entries = list(ROW)
        keeper = revived(canal, entries, 1000)
        keeper.work()
        self.assertEqual(entries, ROW)
        self.assertEqual(told(canal), told(canal_of(STAIR)))

    def test_two_of_the_same_entries_go_their_own_ways(self):
        canal = canal_of(STAIR)
        one, other = revived(canal, ROW, 1000), revived(canal, ROW, 1000)
        kept = stands(other.book())
        one.work()
        one.wish(("rain", "a", 5))
        self.assertEqual(stands(other.book()), kept)
        first, second = replayed(canal, ROW), replayed(canal, ROW)
        first.do(("rain", "a", 5))
        self.assertEqual(stands(second), kept)

    def test_told_lists_of_entries(self):
        book = replayed(canal_of(STAIR), ROW)
        book.entries().clear()
        self.assertEqual(book.entries(), ROW)


class Every(Case):
    """Keepers of many canals, with wishes and works of all sorts, revived from what their books have done."""

    def lived(self, book, source):
        keeper = Keeper(book, 80)
        for _ in range(20):
            try:
                keeper.wish(some_entry(source, keeper.book()))
            except CanalError:
                pass
            if source.random() < 0.2:
                keeper.work()
        return keeper

    def test_revived_keepers_stand_as_the_others(self):
        seen = {"revived": 0, "wide": 0, "planned": 0}
        for book, source in some_books(150, 85):
            keeper = self.lived(book, source)
            entries = entries_of(written(keeper.book().entries()))
            try:
                twin = revived(book.canal(), entries, 80)
            except TooWide:
                seen["wide"] += 1
                twin = revived(book.canal(), entries, 100000)
            self.stands_as(twin, keeper.book())
            seen["revived"] += 1
            seen["planned"] += 1 if twin.plan() else 0
        self.assertGreater(seen["planned"], 20)

    def test_books_that_nobody_kept(self):
        seen = {"home": 0, "doomed": 0, "torn": 0}
        for book, source in some_books(150, 86):
            for _ in range(12):
                entry = some_entry(source, book)
                try:
                    book.do(entry)
                except CanalError:
                    self.torn(book.canal(), book.entries() + [entry])
                    seen["torn"] += 1
            found = look(book.canal(), book.ways(), book.state(), 100000)[0]
            seen[found] += 1
            self.assertEqual(stands(replayed(book.canal(), book.entries())), stands(book))
            if found == "home":
                self.stands_as(revived(book.canal(), book.entries(), 100000), book)
            else:
                self.assertRaises(Torn, revived, book.canal(), book.entries(), 100000)
        self.assertGreater(min(seen.values()), 10)


if __name__ == "__main__":
    unittest.main()
