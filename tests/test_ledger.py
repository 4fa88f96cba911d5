"""7.4 (and 0.1, 2.4, 2.5, 5.5): the pours, the words of the locks' machines and the entries that a book keeps."""

import unittest

from lockhouse.book import Book
from lockhouse.chamber import Chamber
from lockhouse.deeds import pours
from lockhouse.nights import night_pours
from lockhouse.vessels import poured_all, total
from tests.helpers import FAR, FORETOLD, SECOND, UP, book_behind, some_books, some_entry, stands

# The words of a passage behind the one that makes the chamber ready.
UPWARD = ["open low", "in low", "shut low", "fill", "open high", "out high", "shut high"]
DOWNWARD = ["open high", "in high", "shut high", "let", "open low", "out low", "shut low"]

# The chamber, the basin and the high and low reach of each lock of the stair.
LOCKS = {"p": (3, 6, 1, 0), "a": (4, 7, 2, 1), "sea": (5, 8, 2, 1)}


def to_and_fro(name, many):
    """A boat from the low reach of a lock of the stair that goes up and down through it."""
    return ("come", "w", {"p": "a", "a": "b", "sea": "b"}[name], ((name, "up"), (name, "down")) * many)


def from_above(name):
    return ("come", "v", {"p": "b", "a": "c", "sea": "c"}[name], ((name, "down"),))


class Ledger(unittest.TestCase):
    def test_nothing_done(self):
        self.assertEqual(book_behind().ledger(), [])
        self.assertEqual(book_behind(UP, FAR).ledger(), [])

    def test_passes_and_lets_at_a_plain_lock(self):
        row = (to_and_fro("p", 1), ("pass", "w"), ("let", "p"), ("pass", "w"))
        self.assertEqual(book_behind(*row).ledger(), [(1, 3, 10), (3, 0, 10), (1, 3, 10), (3, 0, 10)])
        row = (to_and_fro("p", 1), ("pass", "w"), ("pass", "w"))
        self.assertEqual(book_behind(*row).ledger(), [(1, 3, 10), (3, 0, 10)])

    def test_passes_and_lets_at_a_basin_lock(self):
        row = (to_and_fro("a", 2), ("pass", "w"), ("let", "a"), ("pass", "w"), ("pass", "w"))
        let = [(4, 7, 4), (4, 1, 6)]
        fill = [(7, 4, 4), (2, 4, 6)]
        self.assertEqual(book_behind(*row).ledger(), [(2, 4, 10)] + let + fill + let + fill)

    def test_passes_and_lets_at_a_pump_lock(self):
        row = (to_and_fro("sea", 1), ("pass", "w"), ("let", "sea"), ("pass", "w"))
        fill = [(1, 5, 2), (2, 5, 4)]
        self.assertEqual(book_behind(*row).ledger(), fill + [(5, 1, 6)] + fill + [(5, 1, 6)])

    def test_a_let_that_makes_ready_comes_ahead_of_the_fill(self):
        row = (UP, FAR, ("pass", "x"), ("pass", "y"))
        self.assertEqual(book_behind(*row).ledger(), [(1, 3, 10), (3, 0, 10), (1, 3, 10)])

    def test_a_night(self):
        night = [(0, 10, 1), (1, 10, 2), (10, 0, 3)]
        self.assertEqual(book_behind(("night", FORETOLD)).ledger(), night)
        # The sun takes no more than is there.
        self.assertEqual(
            book_behind(("night", FORETOLD), ("night", SECOND)).ledger(), night + [(1, 10, 38), (10, 1, 5), (10, 2, 1)]
        )

    def test_a_wetter_night_pours_by_its_own_weather_and_then_over_the_weirs(self):
        self.assertEqual(
            book_behind(("night", ((40, 0), (70, 2), (30, 0)))).ledger(),
            [(1, 10, 2), (10, 0, 40), (10, 1, 70), (10, 2, 30), (2, 1, 20), (1, 0, 68), (0, 9, 88)],
        )

    def test_a_take_and_a_rain(self):
        self.assertEqual(book_behind(("take", "b", 7), ("rain", "c", 3)).ledger(), [(1, 10, 7), (10, 2, 3)])
        self.assertEqual(book_behind(("take", "b", 0), ("rain", "c", 0)).ledger(), [])

    def test_a_rain_over_the_weirs_the_last_reach_first(self):
        self.assertEqual(book_behind(("rain", "c", 60)).ledger(), [(10, 2, 60), (2, 1, 50), (1, 0, 30), (0, 9, 10)])
        self.assertEqual(book_behind(("rain", "b", 25)).ledger(), [(10, 1, 25), (1, 0, 5)])
        self.assertEqual(book_behind(("rain", "a", 20)).ledger(), [(10, 0, 20)])

    def test_a_passage_over_the_weirs(self):
        row = (("rain", "a", 20), from_above("p"), ("pass", "v"))
        self.assertEqual(book_behind(*row).ledger(), [(10, 0, 20), (1, 3, 10), (3, 0, 10), (0, 9, 10)])

    def test_what_was_done_stands_ahead_of_what_is_done(self):
        book = book_behind(UP)
        kept = []
        for entry in (("pass", "x"), ("rain", "c", 60), ("let", "p"), ("take", "a", 9), ("night", FORETOLD)):
            book.do(entry)
            self.assertEqual(book.ledger()[:len(kept)], kept)
            self.assertGreater(len(book.ledger()), len(kept))
            kept = book.ledger()


class Gatework(unittest.TestCase):
    def test_nothing_worked(self):
        row = (UP, ("night", FORETOLD), ("take", "a", 1), ("rain", "a", 1))
        self.assertEqual(book_behind(*row).gatework(), [])

    def test_at_each_lock_up_and_down_with_an_empty_and_a_full_chamber(self):
        for name in LOCKS:
            book = book_behind(to_and_fro(name, 2))
            # Empty and up, full and down, let out and up once more, let out ahead of the way down.
            for entry in (("pass", "w"), ("pass", "w"), ("pass", "w"), ("let", name), ("pass", "w")):
                book.do(entry)
            self.assertEqual(
                book.gatework(),
                [(name, UPWARD), (name, DOWNWARD), (name, UPWARD), (name, ["let"]), (name, ["fill"] + DOWNWARD)],
            )

    def test_up_through_a_full_chamber(self):
        book = book_behind(UP, FAR, ("pass", "x"), ("pass", "y"))
        self.assertEqual(book.gatework(), [("p", UPWARD), ("p", ["let"] + UPWARD)])
        for name in ("a", "sea"):
            book = book_behind(to_and_fro(name, 1), ("pass", "w"))
            book.do(("come", "u", "b", ((name, "up"),)))
            book.do(("pass", "u"))
            self.assertEqual(book.gatework(), [(name, UPWARD), (name, ["let"] + UPWARD)])

    def test_down_through_an_empty_chamber(self):
        for name in LOCKS:
            book = book_behind(from_above(name), ("pass", "v"))
            self.assertEqual(book.gatework(), [(name, ["fill"] + DOWNWARD)])

    def test_told_by_the_lock_and_not_by_the_boat(self):
        book = book_behind(("come", "p", "c", (("a", "down"),)), ("pass", "p"))
        self.assertEqual(book.gatework(), [("a", ["fill"] + DOWNWARD)])


class Entries(unittest.TestCase):
    def test_as_they_were_handed_in_and_in_their_order(self):
        row = [UP, ("rain", "a", 0), ("pass", "x"), ("take", "a", 0), ("let", "p"), ("night", ((9, 0), (9, 0), (9, 0)))]
        self.assertEqual(book_behind(*row).entries(), row)

    def test_what_was_refused_or_could_not_be_done_is_not_among_them(self):
        book = book_behind(UP)
        for entry in (UP, ("pass", "y"), ("let", "p"), ("take", "a", 99), ("night", ())):
            self.assertRaises(ValueError, book.do, entry)
        self.assertEqual(book.entries(), [UP])

    def test_what_is_only_asked_is_not_among_them(self):
        book = book_behind(UP)
        book.fault(("pass", "x"))
        book.behind(("pass", "x"))
        self.assertEqual(book.entries(), [UP])
        self.assertEqual((book.ledger(), book.gatework()), ([], []))


class Every(unittest.TestCase):
    def pours_wanted(self, book, entry):
        canal, ways, state = book.canal(), book.ways(), book.state()
        if entry[0] == "night":
            return night_pours(canal, state, list(entry[1]))
        if entry[0] == "pass":
            return pours(canal, ways, state, ("pass", book.names().index(entry[1])))
        if entry[0] == "let":
            return pours(canal, ways, state, ("let", canal.lock_at(entry[1])))
        return []

    def machine(self, canal, k, waters, kept):
        """The machine of a lock at rest, with the chamber and the basin as the machine ahead of it left them."""
        lock = canal.locks[k]
        four = (waters[lock.high], waters[lock.low]) + kept.get(k, (0, 0))
        return Chamber(lock, four, (canal.reaches[lock.high].least, canal.reaches[lock.low].least))

    def worked(self, book, entry, kept):
        """Does what the entry adds to the gatework at the machine, and keeps its chamber and its basin."""
        before = book.state()[1]
        book.do(entry)
        name, words = book.gatework()[-1]
        k = book.canal().lock_at(name)
        machine = self.machine(book.canal(), k, before, kept)
        for word in words:
            machine.do(word)
            self.assertNotEqual(machine.gates(), (True, True))
        self.assertEqual((machine.gates(), machine.boat()), ((False, False), False))
        kept[k] = machine.waters()[2:]

    def test_many_entries(self):
        passed = 0
        for book, source in some_books(200, 71):
            canal = book.canal()
            kept = {}
            for _ in range(30):
                entry = some_entry(source, book)
                before = (len(book.ledger()), len(book.gatework()))
                try:
                    if book.fault(entry) != "":
                        continue
                except ValueError:
                    continue
                wanted = self.pours_wanted(book, entry)
                if entry[0] in ("pass", "let"):
                    self.worked(book, entry, kept)
                    self.assertEqual(len(book.gatework()), before[1] + 1)
                    passed += 1
                else:
                    book.do(entry)
                    self.assertEqual(len(book.gatework()), before[1])
                if entry[0] not in ("take", "rain"):
                    self.assertEqual(book.ledger()[before[0]:], wanted)
                self.holds(book, kept)
            self.assertEqual(stands(book), stands(self.done_anew(canal, book.entries())))
        self.assertGreater(passed, 200)

    def holds(self, book, kept):
        canal, waters = book.canal(), book.state()[1]
        self.assertEqual(poured_all(canal.start(), book.ledger()), waters)
        self.assertTrue(all(amount > 0 and source != target for source, target, amount in book.ledger()))
        self.assertEqual(total(waters), total(canal.start()))
        self.assertGreaterEqual(min(waters[:-1]), 0)
        for k in range(len(canal.locks)):
            self.assertEqual((waters[canal.chamber(k)], waters[canal.basin(k)]), kept.get(k, (0, 0)))

    def done_anew(self, canal, entries):
        book = Book(canal)
        for entry in entries:
            book.do(entry)
        return book


if __name__ == "__main__":
    unittest.main()
