"""7.5 to 7.8 (and 0.2, 0.3, 0.5): how a keeper is made, its answers to a wish and a work, and what its plan does."""

import unittest
from unittest import mock

from lockhouse.boats import all_home, rank
from lockhouse.errors import BadNumber, BadRow, CanalError, NotLinked, TooDry, TooMany, TooWide, Torn, Twice, Unknown
from lockhouse.keeper import Keeper
from lockhouse.look import leads_home, look, shows_doom
from tests.helpers import book_behind, some_books, some_entry, stands

NIGHT = ("night",)
MOST = 1000

# The high reach can give to one fill; so the boat up goes first, and the boat down by the chamber that it filled.
MILL = "reach a 0 50 1 10 sea\nreach b 4 50 1 14 a\nlock p b a 10\nnight\n"
UP = ("come", "x", "a", (("p", "up"),))
DOWN = ("come", "y", "b", (("p", "down"),))

# One berth in each reach, and water enough.
NARROWS = "reach a 0 90 1 50 sea\nreach b 0 90 1 50 a\nreach c 0 90 1 50 b\nlock p b a 10\nlock q c b 10\n"
THROUGH = ("come", "x", "a", (("p", "up"), ("q", "up")))
BACK = ("come", "y", "b", (("p", "down"), ("p", "up")))

# The boat up must wait for the night; it rains 1 then.
DROUGHT = "reach a 0 50 2 0 sea\nreach b 0 50 1 9 a\nlock p b a 10\nnight b 1 0\nnight a 2 1\n"


def mill_keeper(*entries, most=MOST):
    return Keeper(book_behind(UP, DOWN, *entries, text=MILL), most)


def drought_keeper(most=MOST):
    return Keeper(book_behind(UP, text=DROUGHT), most)


def all_told(keeper):
    return (stands(keeper.book()), list(keeper.plan()))


def leads(keeper):
    book = keeper.book()
    return leads_home(book.canal(), book.ways(), book.state(), keeper.plan())


def no_look(*handed):
    raise AssertionError("there was a look")


class Case(unittest.TestCase):
    def refused(self, keeper, entry, wanted):
        kept = all_told(keeper)
        with self.assertRaises(CanalError) as caught:
            keeper.wish(entry)
        self.assertIs(type(caught.exception), wanted, entry)
        self.assertEqual(all_told(keeper), kept)

    def answered_not(self, keeper, entry, word):
        kept = all_told(keeper)
        self.assertEqual(keeper.wish(entry), ("not", word))
        self.assertEqual(all_told(keeper), kept)

    def answered_no(self, keeper, entry):
        kept = all_told(keeper)
        ways, state = keeper.book().behind(entry)
        answer = keeper.wish(entry)
        self.assertEqual((type(answer), len(answer), answer[0], type(answer[1])), (tuple, 2, "no", list))
        self.assertIs(shows_doom(keeper.book().canal(), ways, state, answer[1]), True)
        self.assertEqual(all_told(keeper), kept)
        return answer[1]

    def answered_yes(self, keeper, entry):
        """The wish is done in the book just as the book itself does it, and the plan told is kept and leads home."""
        book = keeper.book()
        book.do(entry)
        return self.yes(keeper, keeper.wish(entry), book)

    def worked(self, keeper, entry):
        """The work does this entry."""
        book = keeper.book()
        book.do(entry)
        return self.yes(keeper, keeper.work(), book)

    def yes(self, keeper, answer, book):
        self.assertEqual((type(answer), len(answer), answer[0], type(answer[1])), (tuple, 2, "yes", list))
        self.assertEqual(all_told(keeper), (stands(book), answer[1]))
        self.assertTrue(leads(keeper))
        return answer[1]


class Made(Case):
    def test_a_book_without_boats(self):
        keeper = Keeper(book_behind(text=MILL), 1)
        self.assertEqual(keeper.plan(), [])
        self.assertEqual(stands(keeper.book()), stands(book_behind(text=MILL)))
        self.assertEqual(keeper.work(), ("not", "done"))

    def test_a_book_with_boats(self):
        book = book_behind(UP, DOWN, text=MILL)
        keeper = Keeper(book, MOST)
        self.assertEqual(keeper.plan(), [("pass", 0), ("pass", 1)])
        self.assertEqual(stands(keeper.book()), stands(book))

    def test_a_book_in_which_much_has_been_done(self):
        keeper = mill_keeper(("pass", "x"), ("rain", "a", 3))
        self.assertEqual(keeper.plan(), [("pass", 1)])
        self.assertEqual(mill_keeper(("pass", "x"), ("pass", "y"), most=1).plan(), [])

    def test_a_doomed_book(self):
        for book in (
            book_behind(UP, DOWN, ("pass", "y"), text=MILL), book_behind(UP, DOWN, ("take", "b", 1), text=MILL),
            book_behind(THROUGH, BACK, text=NARROWS),
        ):
            kept = stands(book)
            with self.assertRaises(Torn) as caught:
                Keeper(book, MOST)
            self.assertIs(type(caught.exception), Torn)
            self.assertEqual(stands(book), kept)

    def test_too_small_a_bound(self):
        book = book_behind(UP, DOWN, text=MILL)
        many = sum(len(layer) for layer in look(book.canal(), book.ways(), book.state(), MOST)[2])
        self.assertTrue(leads(Keeper(book, many)))
        for most in (many - 1, 1):
            with self.assertRaises(TooWide) as caught:
                Keeper(book, most)
            self.assertIs(type(caught.exception), TooWide)
        # A doomed book whose look is too wide is not known to be doomed.
        book.do(("pass", "y"))
        self.assertRaises(TooWide, Keeper, book, 1)
        self.assertRaises(Torn, Keeper, book)

    def test_no_bound_told(self):
        self.assertEqual(Keeper(book_behind(UP, DOWN, text=MILL)).plan(), [("pass", 0), ("pass", 1)])
        text = "reach a 0 900 9 500 sea\nreach b 0 900 9 500 a\n"
        text += "".join(f"lock {name} b a 1\n" for name in "pqrstu")
        boats = [("come", name, "a", ((name, "up"),)) for name in "pqrstu"]
        bounds = []
        for many in range(1, 7):
            book = book_behind(*boats[:many], text=text)
            bounds.append(sum(len(layer) for layer in look(book.canal(), book.ways(), book.state(), MOST)[2]))
            if bounds[-1] > 200:
                self.assertRaises(TooWide, Keeper, book)
            else:
                self.assertEqual(Keeper(book).plan(), Keeper(book, MOST).plan())
        self.assertTrue(bounds[0] <= 200 < bounds[-1])

    def test_a_book_of_its_own(self):
        book = book_behind(UP, DOWN, text=MILL)
        keeper = Keeper(book, MOST)
        kept = all_told(keeper)
        book.do(("pass", "y"))
        self.assertEqual(all_told(keeper), kept)
        keeper.work()
        self.assertEqual(book.entries(), [UP, DOWN, ("pass", "y")])
        self.assertEqual(keeper.book().entries(), [UP, DOWN, ("pass", "x")])


class Wish(Case):
    def test_refusals(self):
        keeper = mill_keeper()
        for entry, wanted in (
            (("come", "X", "a", (("p", "up"),)), BadRow), (UP, Twice), (("come", "z", "d", (("p", "up"),)), Unknown),
            (("come", "z", "a", (("q", "up"),)), Unknown), (("come", "z", "b", (("p", "up"),)), NotLinked),
            (("pass", "z"), Unknown), (("let", "a"), Unknown), (("take", "p", 0), Unknown), (("rain", "p", 0), Unknown),
            (("night", ((0, 0),)), BadNumber), (("night", ((0, 0), (0, 1))), TooDry),
        ):
            self.refused(keeper, entry, wanted)

    def test_too_many_boats(self):
        text = "reach a 0 90 9 50 sea\nreach b 0 90 9 50 a\nlock p b a 1\n"
        keeper = Keeper(book_behind(text=text), MOST)
        for name in "abcdefghi":
            self.answered_yes(keeper, ("come", name, "a", (("p", "up"),)))
            keeper.work()
        self.assertEqual(keeper.book().names(), list("abcdefghi"))
        self.refused(keeper, ("come", "j", "a", (("p", "up"),)), TooMany)

    def test_too_dry_though_the_plan_begins_with_the_night(self):
        keeper = drought_keeper()
        self.assertEqual(keeper.plan(), [NIGHT, ("pass", 0)])
        self.refused(keeper, ("night", ((0, 0), (0, 0))), TooDry)
        self.refused(keeper, ("night", ((0, 0), (9, 1))), TooDry)
        self.refused(keeper, ("night", ((0, 0),)), BadNumber)

    def test_each_word_why_not(self):
        keeper = mill_keeper()
        self.answered_not(keeper, ("come", "z", "a", (("p", "up"),)), "berth")
        self.answered_not(keeper, ("let", "p"), "empty")
        self.answered_not(keeper, ("take", "b", 11), "water")
        self.answered_yes(keeper, ("pass", "x"))
        self.answered_not(keeper, ("pass", "x"), "home")
        self.answered_yes(keeper, ("night", ((0, 0), (0, 0))))
        self.answered_not(keeper, ("night", ((0, 9), (0, 9))), "over")
        keeper = Keeper(book_behind(THROUGH, text=NARROWS), MOST)
        self.answered_yes(keeper, ("come", "y", "b", (("p", "down"),)))
        self.answered_not(keeper, ("pass", "x"), "berth")
        self.answered_not(drought_keeper(), ("pass", "x"), "water")

    def test_a_rain(self):
        keeper = mill_keeper()
        for amount in (0, 1, 36, 500):
            self.assertEqual(self.answered_yes(keeper, ("rain", "b", amount)), [("pass", 0), ("pass", 1)])
        keeper = Keeper(book_behind(text=MILL), 1)
        self.assertEqual(self.answered_yes(keeper, ("rain", "a", 100)), [])

    def test_a_rain_is_done_without_a_look(self):
        # Behind the rain more can be done than the bound has room for; the plan stays all the same.
        text = "reach a 0 90 2 50 sea\nreach b 0 90 2 12 a\nreach c 0 90 1 0 b\nlock p b a 10\nlock q c b 10\n"
        book = book_behind(UP, ("come", "y", "b", (("q", "up"), ("q", "down"))), ("rain", "c", 10), text=text)
        many = sum(len(layer) for layer in look(book.canal(), book.ways(), book.state(), MOST)[2])
        keeper = Keeper(book, many)
        plan = keeper.plan()
        self.answered_yes(keeper, ("rain", "c", 80))
        self.assertEqual(self.answered_yes(keeper, ("rain", "b", 80)), plan)
        self.assertRaises(TooWide, Keeper, keeper.book(), many)
        with mock.patch("lockhouse.keeper.look", no_look):
            self.answered_yes(keeper, ("rain", "a", 1))

    def test_the_plans_first_deed_is_done_without_a_look(self):
        keeper = mill_keeper()
        with mock.patch("lockhouse.keeper.look", no_look):
            self.assertEqual(self.answered_yes(keeper, ("pass", "x")), [("pass", 1)])
            self.assertEqual(self.answered_yes(keeper, ("pass", "y")), [])
            self.assertEqual(keeper.wish(("pass", "y")), ("not", "home"))

    def test_a_let_that_is_the_plans_first_deed(self):
        text = "reach a 0 50 1 0 sea\nreach b 0 50 1 10 a\nreach c 0 50 1 0 a\nlock p b a 10\nlock q c a 10 pump 10\n"
        other = ("come", "y", "a", (("q", "up"),))
        keeper = Keeper(book_behind(UP, ("pass", "x"), other, text=text), MOST)
        self.assertEqual(keeper.plan(), [("let", 0), ("pass", 1)])
        with mock.patch("lockhouse.keeper.look", no_look):
            self.assertEqual(self.answered_yes(keeper, ("let", "p")), [("pass", 1)])

    def test_a_night_that_is_the_plans_first_deed(self):
        for weather in (((0, 0), (1, 0)), ((7, 0), (2, 0)), ((0, 0), (99, 0))):
            keeper = drought_keeper()
            with mock.patch("lockhouse.keeper.look", no_look):
                self.assertEqual(self.answered_yes(keeper, ("night", weather)), [("pass", 0)])
                self.assertEqual(keeper.book().entries()[-1], ("night", weather))
                self.assertEqual(self.answered_yes(keeper, ("pass", "x")), [])

    def test_another_deed_than_the_plans_first_one(self):
        keeper = mill_keeper()
        self.assertEqual(self.answered_yes(keeper, ("night", ((0, 0), (0, 0)))), [("pass", 0), ("pass", 1)])
        keeper = Keeper(book_behind(THROUGH, ("come", "y", "c", (("q", "down"), ("q", "up"))), text=NARROWS), MOST)
        plan = keeper.plan()
        other = {"x": ("pass", 0), "y": ("pass", 1)}
        name = "y" if plan[0] == other["x"] else "x"
        self.answered_yes(keeper, ("pass", name))
        self.assertIn(other[name], plan)

    def test_the_same_deed_of_another_boat_or_lock_is_looked_at(self):
        keeper = mill_keeper()
        self.assertEqual(keeper.plan()[0], ("pass", 0))
        self.answered_no(keeper, ("pass", "y"))

    def test_a_deed_of_the_plan_that_is_not_its_first_one_is_looked_at(self):
        keeper = mill_keeper()
        self.assertEqual(keeper.plan()[1], ("pass", 1))
        self.answered_no(keeper, ("pass", "y"))
        with mock.patch("lockhouse.keeper.look", no_look):
            self.assertRaises(AssertionError, keeper.wish, ("pass", "y"))

    def test_a_deed_that_dooms(self):
        keeper = mill_keeper()
        layers = self.answered_no(keeper, ("pass", "y"))
        self.assertEqual(len(layers[0]), 1)
        self.answered_yes(keeper, ("pass", "x"))
        self.answered_no(keeper, ("let", "p"))
        self.assertEqual(self.answered_yes(keeper, ("pass", "y")), [])

    def test_a_take(self):
        keeper = mill_keeper()
        self.answered_no(keeper, ("take", "b", 1))
        self.answered_no(keeper, ("take", "b", 10))
        self.assertEqual(self.answered_yes(keeper, ("take", "b", 0)), [("pass", 0), ("pass", 1)])
        self.assertEqual(self.answered_yes(keeper, ("take", "a", 10)), [("pass", 0), ("pass", 1)])
        self.answered_yes(keeper, ("rain", "b", 2))
        self.answered_no(keeper, ("take", "b", 3))
        self.answered_yes(keeper, ("take", "b", 2))

    def test_a_take_that_wants_another_plan(self):
        keeper = drought_keeper()
        self.answered_yes(keeper, ("rain", "b", 1))
        keeper = Keeper(keeper.book(), MOST)
        self.assertEqual(keeper.plan(), [("pass", 0)])
        self.assertEqual(self.answered_yes(keeper, ("take", "b", 1)), [NIGHT, ("pass", 0)])
        self.answered_no(keeper, ("take", "b", 1))

    def test_a_night_in_wetter_weather_that_is_not_the_plans_first_deed(self):
        text = "reach a 0 50 2 20 sea\nreach b 0 50 1 10 a\nlock p b a 10\nnight b 0 1\n"
        keeper = Keeper(book_behind(UP, text=text), MOST)
        self.assertEqual(keeper.plan(), [("pass", 0)])
        self.answered_no(keeper, ("night", ((0, 0), (0, 1))))
        self.assertEqual(self.answered_yes(keeper, ("night", ((0, 0), (1, 1)))), [("pass", 0)])

    def test_a_boat_comes(self):
        keeper = Keeper(book_behind(text=MILL), MOST)
        self.assertEqual(self.answered_yes(keeper, UP), [("pass", 0)])
        self.assertEqual(self.answered_yes(keeper, DOWN), [("pass", 0), ("pass", 1)])
        self.assertEqual(keeper.book().names(), ["x", "y"])

    def test_a_come_that_dooms_those_who_are_there_already(self):
        keeper = Keeper(book_behind(THROUGH, text=NARROWS), MOST)
        self.answered_no(keeper, BACK)
        self.assertEqual(keeper.book().names(), ["x"])
        # Alone it would come home.
        self.answered_yes(Keeper(book_behind(text=NARROWS), MOST), BACK)
        # And behind the first boat's way through, too.
        while keeper.plan():
            keeper.work()
        self.answered_yes(keeper, BACK)

    def test_a_come_that_is_doomed_itself(self):
        keeper = Keeper(book_behind(("come", "y", "b", (("p", "down"),)), ("pass", "y"), text=MILL), MOST)
        self.answered_no(keeper, UP)
        self.assertEqual(keeper.book().names(), ["y"])

    def test_a_look_that_is_too_wide(self):
        keeper = Keeper(book_behind(text=MILL), 1)
        self.refused(keeper, UP, TooWide)
        self.assertEqual(self.answered_yes(keeper, ("take", "a", 1)), [])
        self.refused(keeper, UP, TooWide)
        book = book_behind(UP, DOWN, ("pass", "x"), text=MILL)
        many = sum(len(layer) for layer in look(book.canal(), book.ways(), book.state(), MOST)[2])
        keeper = Keeper(book, many)
        self.refused(keeper, ("come", "z", "a", (("p", "up"), ("p", "down"))), TooWide)
        self.assertEqual(self.answered_yes(keeper, ("pass", "y")), [])

    def test_a_word_why_not_comes_ahead_of_a_look(self):
        with mock.patch("lockhouse.keeper.look", wraps=look) as looked:
            keeper = mill_keeper()
            self.answered_not(keeper, ("let", "p"), "empty")
            self.answered_not(keeper, ("take", "b", 99), "water")
            self.refused(keeper, ("pass", "z"), Unknown)
        self.assertEqual(looked.call_count, 1)


class Work(Case):
    def test_an_empty_plan(self):
        keeper = Keeper(book_behind(text=MILL), MOST)
        kept = all_told(keeper)
        self.assertEqual(keeper.work(), ("not", "done"))
        self.assertEqual(all_told(keeper), kept)

    def test_works_until_every_boat_is_home(self):
        keeper = mill_keeper()
        with mock.patch("lockhouse.keeper.look", no_look):
            self.assertEqual(self.worked(keeper, ("pass", "x")), [("pass", 1)])
            self.assertEqual(self.worked(keeper, ("pass", "y")), [])
            kept = all_told(keeper)
            self.assertEqual(keeper.work(), ("not", "done"))
            self.assertEqual(keeper.work(), ("not", "done"))
        self.assertEqual(all_told(keeper), kept)
        self.assertTrue(all_home(keeper.book().ways(), keeper.book().state()))

    def test_a_night_comes_as_foretold(self):
        keeper = drought_keeper()
        self.assertEqual(self.worked(keeper, ("night", ((0, 0), (1, 0)))), [("pass", 0)])
        self.assertEqual(self.worked(keeper, ("pass", "x")), [])
        self.assertEqual(keeper.book().entries(), [UP, ("night", ((0, 0), (1, 0))), ("pass", "x")])
        text = "reach a 0 50 1 0 sea\nreach b 0 50 1 8 a\nlock p b a 10\nnight b 1 0\nnight a 2 1 b 1 0\n"
        keeper = Keeper(book_behind(UP, text=text), MOST)
        self.worked(keeper, ("night", ((0, 0), (1, 0))))
        self.assertEqual(self.worked(keeper, ("night", ((2, 1), (1, 0)))), [("pass", 0)])

    def test_a_let(self):
        text = "reach a 0 50 1 0 sea\nreach b 0 50 1 10 a\nreach c 0 50 1 0 a\nlock p b a 10\nlock q c a 10 pump 10\n"
        keeper = Keeper(book_behind(UP, ("pass", "x"), ("come", "y", "a", (("q", "up"),)), text=text), MOST)
        self.assertEqual(self.worked(keeper, ("let", "p")), [("pass", 1)])
        self.assertEqual(self.worked(keeper, ("pass", "y")), [])

    def test_behind_rain_and_wetter_nights(self):
        keeper = drought_keeper()
        self.answered_yes(keeper, ("rain", "b", 20))
        self.assertEqual(self.worked(keeper, ("night", ((0, 0), (1, 0)))), [("pass", 0)])
        self.answered_yes(keeper, ("rain", "a", 90))
        self.assertEqual(self.worked(keeper, ("pass", "x")), [])


class Own(Case):
    def test_what_was_told_stays_and_to_change_it_changes_nothing(self):
        keeper = mill_keeper()
        plan = keeper.plan()
        answer = keeper.wish(("rain", "a", 1))
        no = keeper.wish(("pass", "y"))
        kept = ([tuple(deed) for deed in plan], list(answer[1]), [list(layer) for layer in no[1]])
        keeper.work()
        worked = keeper.work()
        self.assertEqual((plan, answer[1], no[1]), kept)
        for changed in (plan, answer[1], no[1], worked[1], keeper.plan()):
            changed.append(NIGHT)
        self.assertEqual(keeper.plan(), [])
        self.assertEqual(keeper.work(), ("not", "done"))

    def test_changing_a_told_plan_ahead_of_a_work(self):
        keeper = mill_keeper()
        for changed in (keeper.plan(), keeper.wish(("rain", "a", 1))[1], keeper.wish(("take", "a", 1))[1]):
            changed.clear()
        self.assertEqual(keeper.plan(), [("pass", 0), ("pass", 1)])
        keeper.work()[1].clear()
        self.assertEqual(keeper.plan(), [("pass", 1)])
        self.assertEqual(self.worked(keeper, ("pass", "y")), [])

    def test_changing_a_told_book(self):
        keeper = mill_keeper()
        kept = all_told(keeper)
        book = keeper.book()
        book.do(("pass", "y"))
        book.do(("rain", "b", 30))
        book.gatework()[0][1].clear()
        self.assertEqual(all_told(keeper), kept)
        book = keeper.book()
        keeper.work()
        self.assertEqual(stands(book), kept[0])

    def test_two_keepers_of_one_book(self):
        book = book_behind(UP, DOWN, text=MILL)
        one, other = Keeper(book, MOST), Keeper(book, MOST)
        kept = all_told(other)
        one.work()
        self.assertEqual(all_told(other), kept)


class Every(Case):
    """Keepers of many canals, with wishes of all sorts."""

    def homecoming(self, canal, ways, state):
        """Whether any row of deeds leads home, or None where that is not known within the bound."""
        try:
            return look(canal, ways, state, 60)[0] == "home"
        except TooWide:
            return None

    def asked(self, keeper, entry):
        """Wishes for an entry, and looks whether the answer is the one that 7.6 tells."""
        book = keeper.book()
        try:
            word = book.fault(entry)
        except CanalError as error:
            self.refused(keeper, entry, type(error))
            return "refused"
        if word != "":
            self.answered_not(keeper, entry, word)
            return "not"
        names = {"pass": book.names(), "let": [lock.name for lock in book.canal().locks]}
        deed = (entry[0], names[entry[0]].index(entry[1])) if entry[0] in names else entry[:1]
        if entry[0] == "rain" or keeper.plan()[:1] == [deed]:
            plan = keeper.plan() if entry[0] == "rain" else keeper.plan()[1:]
            self.assertEqual(self.answered_yes(keeper, entry), plan)
            return "kept"
        leads_on = self.homecoming(book.canal(), *book.behind(entry))
        if leads_on is None:
            self.refused(keeper, entry, TooWide)
        elif leads_on:
            self.answered_yes(keeper, entry)
        else:
            self.answered_no(keeper, entry)
        return {None: "wide", True: "yes", False: "no"}[leads_on]

    def test_wishes_and_works(self):
        seen = {}
        for book, source in some_books(300, 73):
            keeper = Keeper(book, 60)
            for _ in range(25):
                kind = self.asked(keeper, some_entry(source, keeper.book()))
                seen[kind] = seen.get(kind, 0) + 1
                if source.random() < 0.1:
                    keeper.work()
                self.assertTrue(leads(keeper))
        self.assertEqual(set(seen), {"refused", "not", "kept", "yes", "no", "wide"})
        self.assertGreater(min(seen.values()), 5)

    def test_as_many_works_as_the_rank_bring_every_boat_home(self):
        many = 0
        for book, source in some_books(200, 79):
            keeper = Keeper(book, 60)
            for _ in range(12):
                self.asked(keeper, some_entry(source, keeper.book()))
            book = keeper.book()
            steps = rank(book.canal(), book.ways(), book.state())
            many += 1 if keeper.plan() else 0
            for _ in range(steps):
                keeper.work()
                entry = some_entry(source, keeper.book())
                if entry[0] != "come":
                    self.asked(keeper, entry)
            self.assertTrue(all_home(keeper.book().ways(), keeper.book().state()))
            self.assertEqual((keeper.plan(), keeper.work()), ([], ("not", "done")))
        self.assertGreater(many, 50)


if __name__ == "__main__":
    unittest.main()
