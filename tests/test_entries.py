"""7.2 and 7.3 (and 7.1, 0.3, 0.5): for what an entry is refused, why one cannot be done, and the state behind it."""

import unittest

from lockhouse import errors
from lockhouse.boats import lying
from lockhouse.deeds import why_not
from lockhouse.errors import BadNumber, BadRow, CanalError, NotLinked, NotNow, TooDry, TooMany, Twice, Unknown
from lockhouse.words import is_name
from tests.helpers import (
    DOWN, FAR, FORETOLD, GREATEST, SECOND, STAIR_START, UP, book_behind, some_books, some_entry, stands,
)


class Case(unittest.TestCase):
    def refused(self, book, entry, wanted):
        kept = stands(book)
        for call in (book.fault, book.behind, book.do):
            with self.assertRaises(CanalError) as caught:
                call(entry)
            self.assertIs(type(caught.exception), wanted, (call.__name__, entry))
            self.assertEqual(stands(book), kept)

    def cannot(self, book, entry, word):
        kept = stands(book)
        self.assertEqual(book.fault(entry), word)
        for call in (book.behind, book.do):
            with self.assertRaises(NotNow) as caught:
                call(entry)
            self.assertIs(type(caught.exception), NotNow)
            self.assertEqual(stands(book), kept)

    def done(self, book, entry):
        """Does an entry; what fault and behind told ahead of it is what came."""
        kept = stands(book)
        self.assertEqual(book.fault(entry), "")
        behind = book.behind(entry)
        self.assertEqual(stands(book), kept)
        self.assertIsNone(book.do(entry))
        self.assertEqual((book.ways(), book.state()), behind)
        self.assertEqual(book.entries(), kept[6] + [entry])
        return book


class Come(Case):
    def test_a_boat_comes(self):
        book = self.done(book_behind(), FAR)
        self.assertEqual(book.names(), ["y"])
        self.assertEqual(book.ways(), [(0, ((0, "up"), (1, "up")))])
        self.assertEqual(book.state(), (0, STAIR_START, (0,)))
        self.assertEqual((book.ledger(), book.gatework()), ([], []))

    def test_boats_stand_in_the_order_in_which_they_came(self):
        book = book_behind(DOWN)
        self.done(book, UP)
        self.done(book, ("pass", "z"))
        self.done(book, FAR)
        self.assertEqual(book.names(), ["z", "x", "y"])
        self.assertEqual(book.ways(), [(2, ((2, "down"), (0, "down"))), (0, ((0, "up"),)), (0, ((0, "up"), (1, "up")))])
        self.assertEqual(book.state()[2], (1, 0, 0))

    def test_a_way_is_made_of_tuples(self):
        way = book_behind(FAR).ways()[0]
        self.assertEqual((type(way), type(way[1]), type(way[1][0])), (tuple, tuple, tuple))
        self.assertEqual((type(way[0]), type(way[1][0][0]), type(way[1][0][1])), (int, int, str))

    def test_a_boat_called_like_a_reach_a_lock_or_the_sea(self):
        for name in ("a", "b", "p", "sea", "come", "abcdefghijkl"):
            book = self.done(book_behind(), ("come", name, "a", (("p", "up"),)))
            self.assertEqual(book.names(), [name])

    def test_a_name_that_is_none(self):
        for name in ("", "A", "x1", "1", "x y", " x", "x\n", "x_", "\xe9", "abcdefghijklm"):
            self.refused(book_behind(), ("come", name, "a", (("p", "up"),)), BadRow)

    def test_a_name_that_is_taken(self):
        book = book_behind(UP)
        self.refused(book, UP, Twice)
        self.refused(book, ("come", "x", "c", (("a", "down"),)), Twice)
        self.done(book, ("come", "xx", "c", (("a", "down"),)))

    def test_a_name_that_is_taken_by_a_boat_that_is_home(self):
        self.refused(book_behind(UP, ("pass", "x")), UP, Twice)

    def test_a_tenth_boat(self):
        steps = (("a", "down"),)
        book = book_behind(*[("come", name, "c", steps) for name in "qrstuvwxy"])
        self.assertEqual(len(book.names()), 9)
        self.refused(book, ("come", "z", "c", steps), TooMany)
        # Though berths are free again, and though a boat is home.
        book.do(("pass", "q"))
        self.refused(book, ("come", "z", "c", steps), TooMany)
        self.refused(book, ("come", "z", "a", (("p", "up"),)), TooMany)

    def test_an_unknown_start(self):
        for start in ("sea", "p", "d", "", "x", "A"):
            self.refused(book_behind(UP), ("come", "y", start, (("p", "up"),)), Unknown)

    def test_an_unknown_lock(self):
        for name in ("b", "c", "x", "", "P"):
            self.refused(book_behind(UP), ("come", "y", "a", ((name, "up"),)), Unknown)
            self.refused(book_behind(UP), ("come", "y", "a", (("p", "up"), ("a", "up"), (name, "up"))), Unknown)

    def test_a_step_that_begins_elsewhere(self):
        for start, steps in (
            ("b", (("p", "up"),)), ("a", (("p", "down"),)), ("a", (("a", "up"),)), ("c", (("p", "down"),)),
            ("a", (("p", "up"), ("p", "up"))), ("a", (("p", "up"), ("sea", "down"))),
            ("c", (("a", "down"), ("sea", "up"), ("p", "down"))),
        ):
            self.refused(book_behind(UP), ("come", "y", start, steps), NotLinked)

    def test_of_two_the_first_one_told(self):
        nine = book_behind(*[("come", name, "c", (("a", "down"),)) for name in "qrstuvwxy"])
        good = (("p", "up"),)
        self.refused(nine, ("come", "Q", "c", (("a", "down"),)), BadRow)
        self.refused(nine, ("come", "", "d", (("d", "up"),)), BadRow)
        self.refused(nine, ("come", "q", "c", (("a", "down"),)), Twice)
        self.refused(nine, ("come", "q", "d", good), Twice)
        self.refused(nine, ("come", "z", "d", good), TooMany)
        self.refused(nine, ("come", "z", "a", (("d", "up"),)), TooMany)
        self.refused(nine, ("come", "z", "c", good), TooMany)
        few = book_behind(UP)
        self.refused(few, ("come", "", "a", good), BadRow)
        self.refused(few, ("come", "x", "d", good), Twice)
        self.refused(few, ("come", "x", "b", good), Twice)
        self.refused(few, ("come", "y", "d", (("a", "down"), ("a", "down"))), Unknown)
        self.refused(few, ("come", "y", "b", (("p", "up"), ("d", "up"))), Unknown)
        self.refused(few, ("come", "y", "a", (("p", "down"), ("b", "up"))), Unknown)

    def test_a_reach_whose_berths_are_taken(self):
        book = book_behind(("come", "x", "b", (("a", "up"), ("a", "down"), ("p", "down"))))
        other = ("come", "y", "b", (("p", "down"),))
        self.cannot(book, other, "berth")
        book.do(("pass", "x"))
        self.done(book, other)
        # The boat that has gone on finds its berth taken, and one more finds none either.
        self.cannot(book, ("pass", "x"), "berth")
        self.cannot(book, ("come", "z", "b", (("p", "down"),)), "berth")

    def test_a_boat_that_is_home_lies_in_no_reach(self):
        book = book_behind(UP, FAR)
        self.cannot(book, ("come", "w", "a", (("p", "up"),)), "berth")
        self.done(book, ("pass", "x"))
        self.done(book, ("come", "w", "a", (("p", "up"),)))
        self.done(book, ("come", "v", "b", (("p", "down"),)))

    def test_refused_ahead_of_the_berths(self):
        book = book_behind(("come", "x", "b", (("p", "down"),)))
        self.refused(book, ("come", "y", "b", (("p", "up"),)), NotLinked)
        self.refused(book, ("come", "x", "b", (("p", "down"),)), Twice)
        self.refused(book, ("come", "y", "b", (("b", "down"),)), Unknown)

    def test_the_longest_way_and_one_longer(self):
        steps = (("p", "up"), ("p", "down")) * 4
        book = self.done(book_behind(), ("come", "x", "a", steps))
        self.assertEqual(book.ways(), [(0, ((0, "up"), (0, "down")) * 4)])
        self.done(book, ("come", "y", "a", steps + (("p", "up"),)))


class PassAndLet(Case):
    def test_a_pass_and_a_let(self):
        book = self.done(book_behind(UP), ("pass", "x"))
        self.assertEqual(book.state(), (0, (30, 30, 90, 10, 0, 0, 0, 0, 0, 0, 0), (1,)))
        self.done(book, ("let", "p"))
        self.assertEqual(book.state(), (0, (40, 30, 90, 0, 0, 0, 0, 0, 0, 0, 0), (1,)))
        self.assertEqual(book.ways(), [(0, ((0, "up"),))])

    def test_names_that_are_not_told(self):
        book = book_behind(UP)
        for name in ("y", "a", "p", "", "xx", "X"):
            self.refused(book, ("pass", name), Unknown)
        for name in ("b", "c", "x", "", "pp", "P"):
            self.refused(book, ("let", name), Unknown)
        self.refused(book_behind(), ("pass", "x"), Unknown)

    def test_things_that_are_called_alike(self):
        # The second boat is called like the first reach and the second lock.
        book = book_behind(UP, ("come", "a", "c", (("a", "down"),)))
        self.done(book, ("pass", "a"))
        self.assertEqual(book.state(), (0, (30, 46, 80, 0, 0, 0, 0, 4, 0, 0, 0), (0, 1)))
        self.cannot(book, ("let", "a"), "empty")
        self.done(book, ("take", "a", 1))
        self.assertEqual(book.state()[1][0], 29)

    def test_each_word_why_not(self):
        book = book_behind(UP, FAR, ("come", "z", "b", (("p", "down"),)))
        self.cannot(book, ("pass", "y"), "berth")
        self.cannot(book, ("let", "p"), "empty")
        book.do(("pass", "x"))
        self.cannot(book, ("pass", "x"), "home")
        book.do(("take", "b", 20))
        book.do(("pass", "z"))
        self.cannot(book, ("pass", "y"), "water")
        book.do(("rain", "b", 5))
        self.done(book, ("pass", "y"))
        self.assertEqual(book.state()[1][1], 5)


class Night(Case):
    def test_as_foretold(self):
        book = self.done(book_behind(UP), ("night", FORETOLD))
        self.assertEqual(book.state(), (1, (32, 38, 90, 0, 0, 0, 0, 0, 0, 0, 0), (0,)))
        self.done(book, ("night", SECOND))
        self.assertEqual(book.state(), (2, (32, 5, 91, 0, 0, 0, 0, 0, 0, 0, 32), (0,)))

    def test_wetter(self):
        book = self.done(book_behind(), ("night", ((4, 1), (30, 0), (0, 0))))
        self.assertEqual(book.state(), (1, (43, 60, 90, 0, 0, 0, 0, 0, 0, 0, -33), ()))
        self.done(book_behind(), ("night", ((3, 0), (0, 2), (GREATEST, 0))))

    def test_drier_in_one_reach(self):
        for weather in (
            ((2, 1), (0, 2), (0, 0)), ((3, 2), (0, 2), (0, 0)), ((3, 1), (0, 3), (0, 0)), ((3, 1), (0, 2), (0, 1)),
            ((0, 0), (9, 0), (9, 0)), ((9, 0), (9, 0), (9, 1)), ((0, 0),) * 3,
        ):
            self.refused(book_behind(), ("night", weather), TooDry)

    def test_set_beside_the_night_of_the_day(self):
        book = book_behind(("night", FORETOLD))
        self.refused(book, ("night", FORETOLD), TooDry)
        self.refused(book_behind(), ("night", SECOND), TooDry)
        self.done(book, ("night", SECOND))

    def test_a_pair_too_few_and_one_too_many(self):
        for weather in ((), FORETOLD[:2], FORETOLD[:1], FORETOLD + ((0, 0),), FORETOLD + FORETOLD):
            self.refused(book_behind(), ("night", weather), BadNumber)

    def test_too_few_and_too_dry_at_once(self):
        self.refused(book_behind(), ("night", ((0, 9), (0, 9))), BadNumber)
        self.refused(book_behind(), ("night", ((0, 9),) * 4), BadNumber)

    def test_behind_the_last_night(self):
        book = book_behind(("night", FORETOLD), ("night", SECOND))
        for weather in (FORETOLD, SECOND, ((0, 0),) * 3, ((0, GREATEST),) * 3, ((9, 0),) * 3):
            self.cannot(book, ("night", weather), "over")
        self.refused(book, ("night", FORETOLD[:2]), BadNumber)
        self.refused(book, ("night", ()), BadNumber)
        self.refused(book, ("night", FORETOLD + ((0, 0),)), BadNumber)

    def test_a_canal_without_nights(self):
        book = book_behind(text="reach a 0 9 1 5 sea\n")
        self.cannot(book, ("night", ((0, 9),)), "over")
        self.refused(book, ("night", ()), BadNumber)


class TakeAndRain(Case):
    def test_a_take(self):
        book = self.done(book_behind(UP), ("take", "b", 7))
        self.assertEqual(book.state(), (0, (30, 33, 90, 0, 0, 0, 0, 0, 0, 0, 7), (0,)))

    def test_a_take_of_nought(self):
        book = self.done(book_behind(), ("take", "b", 0))
        self.assertEqual((book.state(), book.ledger()), ((0, STAIR_START, ()), []))

    def test_just_what_leaves_the_least_and_one_more(self):
        for name, amount in (("a", 25), ("b", 35), ("c", 80)):
            self.cannot(book_behind(), ("take", name, amount + 1), "water")
            self.cannot(book_behind(), ("take", name, GREATEST), "water")
            book = self.done(book_behind(), ("take", name, amount))
            self.cannot(book, ("take", name, 1), "water")
            self.done(book, ("take", name, 0))

    def test_a_reach_that_holds_less_than_its_least(self):
        text = "reach a 9 20 1 5 sea\n"
        for amount in (0, 1, 5, 6):
            self.cannot(book_behind(text=text), ("take", "a", amount), "water")
        self.done(book_behind(("rain", "a", 5), text=text), ("take", "a", 1))

    def test_a_rain(self):
        book = self.done(book_behind(UP), ("rain", "b", 7))
        self.assertEqual(book.state(), (0, (30, 47, 90, 0, 0, 0, 0, 0, 0, 0, -7), (0,)))

    def test_a_rain_of_nought(self):
        book = self.done(book_behind(), ("rain", "b", 0))
        self.assertEqual((book.state(), book.ledger()), ((0, STAIR_START, ()), []))

    def test_a_rain_up_to_the_crest_and_above_it(self):
        book = self.done(book_behind(), ("rain", "c", 10))
        self.assertEqual(book.state()[1][:3], (30, 40, 100))
        self.done(book, ("rain", "c", 50))
        self.assertEqual(book.state(), (0, (50, 60, 100, 0, 0, 0, 0, 0, 0, 10, -60), ()))
        self.done(book, ("rain", "a", GREATEST))
        self.assertEqual(book.state()[1][9:], (10 + GREATEST, -60 - GREATEST))

    def test_a_rain_into_a_reach_below_its_least(self):
        self.done(book_behind(text="reach a 9 20 1 5 sea\n"), ("rain", "a", 1))

    def test_names_that_are_not_told(self):
        book = book_behind(UP)
        for name in ("p", "sea", "x", "d", "", "A"):
            for amount in (0, 1, GREATEST):
                self.refused(book, ("take", name, amount), Unknown)
                self.refused(book, ("rain", name, amount), Unknown)


class Every(Case):
    """Entries of all sorts in books of many canals, set beside 7.2 and 7.3 read reason by reason."""

    def reason(self, book, entry):
        return self.refusal(book, entry) or self.word(book, entry)

    def refusal(self, book, entry):
        canal = book.canal()
        reaches = [reach.name for reach in canal.reaches]
        locks = [lock.name for lock in canal.locks]
        if entry[0] == "come":
            reasons = (
                (BadRow, not is_name(entry[1])), (Twice, entry[1] in book.names()), (TooMany, len(book.names()) == 9),
                (Unknown, entry[2] not in reaches or any(name not in locks for name, side in entry[3])),
            )
            return next((wanted for wanted, so in reasons if so), None) or self.not_linked(canal, entry)
        if entry[0] == "night":
            if len(entry[1]) != len(reaches):
                return BadNumber
            foretold = canal.nights[book.state()[0]:][:1]
            drier = [1 for night in foretold for (comes, goes), (c, g) in zip(entry[1], night) if comes < c or goes > g]
            return TooDry if drier else None
        told_names = {"pass": book.names(), "let": locks, "take": reaches, "rain": reaches}[entry[0]]
        return None if entry[1] in told_names else Unknown

    def not_linked(self, canal, entry):
        at = canal.reach_at(entry[2])
        for name, side in entry[3]:
            lock = canal.locks[canal.lock_at(name)]
            begins, ends = (lock.low, lock.high) if side == "up" else (lock.high, lock.low)
            if begins != at:
                return NotLinked
            at = ends
        return None

    def word(self, book, entry):
        canal, ways, state = book.canal(), book.ways(), book.state()
        if entry[0] == "come":
            start = canal.reach_at(entry[2])
            return "berth" if lying(canal, ways, state, start) >= canal.reaches[start].berths else ""
        if entry[0] == "take":
            at = canal.reach_at(entry[1])
            return "water" if state[1][at] - entry[2] < canal.reaches[at].least else ""
        if entry[0] == "rain":
            return ""
        number = {"pass": lambda: book.names().index(entry[1]), "let": lambda: canal.lock_at(entry[1])}
        deed = ("night",) if entry[0] == "night" else (entry[0], number[entry[0]]())
        return why_not(canal, ways, state, deed)

    def test_many_entries(self):
        seen = {}
        for book, source in some_books(150):
            for _ in range(30):
                entry = some_entry(source, book)
                reason = self.reason(book, entry)
                if reason == "":
                    self.done(book, entry)
                elif isinstance(reason, str):
                    self.cannot(book, entry, reason)
                else:
                    self.refused(book, entry, reason)
                seen[(entry[0], reason)] = seen.get((entry[0], reason), 0) + 1
        refusals = (BadRow, Twice, Unknown, NotLinked)
        wanted = [("come", reason) for reason in refusals + ("berth", "")]
        wanted += [("pass", reason) for reason in (Unknown, "home", "berth", "water", "")]
        wanted += [("let", reason) for reason in (Unknown, "empty", "")]
        wanted += [("night", reason) for reason in (BadNumber, TooDry, "over", "")]
        wanted += [("take", Unknown), ("take", "water"), ("take", ""), ("rain", Unknown), ("rain", "")]
        self.assertEqual([pair for pair in wanted if pair not in seen], [])

    def test_refusals_stand_straight_under_canal_error(self):
        for name in ("BadRow", "Twice", "TooMany", "Unknown", "NotLinked", "BadNumber", "TooDry", "NotNow"):
            self.assertEqual(getattr(errors, name).__bases__, (CanalError,))


if __name__ == "__main__":
    unittest.main()
