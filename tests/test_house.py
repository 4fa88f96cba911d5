"""9.1 to 9.6 (and 0.2, 0.3, 0.5, 4.5, 7.2, 7.6, 7.7): a house, what it is asked, what it answers and refuses."""

import unittest
from unittest import mock

from lockhouse.book import Book
from lockhouse.canal import Canal
from lockhouse.errors import BadRow, CanalError
from lockhouse.house import House, run
from lockhouse.keeper import Keeper
from lockhouse.look import leads_home
from lockhouse.reading import canal_of
from lockhouse.showing import shown
from tests.helpers import GREATEST, STAIR, STAIR_START, Witness, some_books, some_row, stands, told

# The high reach can give to one fill; so the boat up goes first, and the boat down by the chamber that it filled.
MILL = "reach a 0 50 1 10 sea\nreach b 4 50 1 14 a\nlock p b a 10\nnight\n"
BOTH = ("come x a p up", "come y b p down")

# One berth in each reach, and water enough.
NARROWS = "reach a 0 90 1 50 sea\nreach b 0 90 1 50 a\nreach c 0 90 1 50 b\nlock p b a 10\nlock q c b 10\n"

# The boat up must wait for the night; it rains 1 then.
DROUGHT = "reach a 0 50 2 0 sea\nreach b 0 50 1 9 a\nlock p b a 10\nnight b 1 0\nnight a 2 1\n"

# Berths for nine and water for all; a lock is called like a reach, one like the sea, one like a word that is asked.
ROOMY = "reach a 0 900 9 500 sea\nreach b 0 900 9 500 a\nlock a b a 10\nlock sea b a 10 basin 4\n"
ROOMY += "lock work b a 10 pump 2\n"

# Canals that are refused, each for another reason.
BAD_CANALS = {
    "no row": "", "an empty row": "\n", "no reach": "night\n", "no kind": MILL + "weir a b\n",
    "a blank row": MILL + " \n",
    "too few words": "reach a 0 50 1 10\n", "no number": "reach a 0 50 1 010 sea\n",
    "no name": "reach A 0 50 1 10 sea\n",
    "called sea": "reach sea 0 50 1 10 sea\n", "a reach twice": MILL + "reach a 0 50 1 10 sea\n",
    "a lock twice": MILL + "lock p b a 5\n", "a name twice in a night": MILL + "night a 1 1 a 1 1\n",
    "an unknown target": "reach a 0 50 1 10 b\n", "an unknown reach of a lock": MILL + "lock q b c 5\n",
    "an unknown reach of a night": MILL + "night c 1 1\n", "a least above its crest": "reach a 51 50 1 10 sea\n",
    "no berth": "reach a 0 50 0 10 sea\n", "ten berths": "reach a 0 50 10 10 sea\n", "no room": MILL + "lock q b a 0\n",
    "high and low turned": MILL + "lock q a b 5\n", "too great a basin": MILL + "lock q b a 5 basin 6\n",
    "a ninth reach": "".join(f"reach {name} 0 50 1 10 sea\n" for name in "abcdefghi"),
    "a ninth lock": MILL + "".join(f"lock {name} b a 5\n" for name in "abcdefgh"),
    "a seventh night": "reach a 0 50 1 10 sea\n" + "night\n" * 7,
}
BAD_KEEPERS = ("keeper 0", "keeper 1001", "keeper 01", "keeper x", "keeper 1 1", "keeper ", "keeper  5", "keeper 5 ",
               "keeper -1", "keeper +5", "keeper 1000000000000", "keeper\t5", "Keeper", " keeper", "keepers",
               "keeper\r")


def house_of(text, *rows, keeper="keeper 1000"):
    """A house, behind these rows."""
    house = House(text + keeper + "\n")
    for row in rows:
        house.ask(row)
    return house


def all_told(house):
    return (stands(house.keeper().book()), house.keeper().plan(), house.ask("plan"), house.ask("waters"),
            told(house.canal()))


class Case(unittest.TestCase):
    def answers(self, house, row, answer):
        said = house.ask(row)
        self.assertEqual(said, answer, row)
        self.assertIs(type(said), str)

    def unchanged(self, house, row, answer):
        kept = all_told(house)
        self.answers(house, row, answer)
        self.assertEqual(all_told(house), kept)
        return house

    def refused(self, text):
        with self.subTest(text=text):
            with self.assertRaises(CanalError) as caught:
                House(text)
            self.assertIs(type(caught.exception), BadRow)
            self.assertEqual(run(text), "refused canal\n")


class Made(Case):
    def test_canal_and_keeper(self):
        house = House(STAIR + "keeper 7\n")
        self.assertIs(type(house.canal()), Canal)
        self.assertEqual(told(house.canal()), told(canal_of(STAIR)))
        self.assertIs(type(house.keeper()), Keeper)
        self.assertEqual(stands(house.keeper().book()), stands(Book(canal_of(STAIR))))
        self.assertEqual(house.keeper().plan(), [])
        self.assertEqual(house.keeper().book().state(), (0, STAIR_START, ()))

    def test_none_of_the_rows_behind_the_keepers_is_done(self):
        house = House(MILL + "keeper\n" + "\n".join(BOTH) + "\npass x\nnonsense\n")
        self.assertEqual(stands(house.keeper().book()), stands(Book(canal_of(MILL))))
        self.answers(house, "plan", "plan")
        self.answers(house, BOTH[0], "yes pass x")

    def test_the_keeper_itself(self):
        house = house_of(MILL, *BOTH)
        self.assertIs(house.keeper(), house.keeper())
        self.assertEqual(house.keeper().wish(("pass", "x")), ("yes", [("pass", 1)]))
        self.answers(house, "plan", "plan pass y")
        self.answers(house, "waters", "waters 10 4")
        self.assertEqual(house.keeper().work(), ("yes", []))
        self.answers(house, "work", "not done")

    def test_the_bound(self):
        for keeper, most in (("keeper", 200), ("keeper 1", 1), ("keeper 37", 37), ("keeper 1000", 1000)):
            with mock.patch("lockhouse.house.Keeper", wraps=Keeper) as made:
                House(MILL + keeper)
            self.assertEqual(made.call_args.args[1], most)
            house = House(MILL + keeper)
            with mock.patch("lockhouse.house.look_for_knot", return_value=("free", [[1]])) as looked:
                self.answers(house, "knots", "free 1")
            self.assertEqual(looked.call_args.args[3], most)

    def test_empty_rows_and_no_line_feed_at_the_end(self):
        for text in (MILL + "keeper", "\n\n" + MILL.replace("\n", "\n\n") + "\nkeeper\n\n"):
            self.assertEqual(told(House(text).canal()), told(canal_of(MILL)))

    def test_two_houses_of_one_text(self):
        one, other = House(MILL + "keeper\n"), House(MILL + "keeper\n")
        one.ask(BOTH[0])
        self.answers(other, "plan", "plan")
        self.assertEqual(other.keeper().book().names(), [])


class RefusedCanal(Case):
    def test_no_row_begins_with_the_word(self):
        for text in ("", "\n", MILL, MILL + "work\nplan\n", "work\n"):
            self.refused(text)

    def test_a_keepers_row_that_is_none(self):
        for row in BAD_KEEPERS:
            self.refused(MILL + row)
            self.refused(MILL + row + "\nplan\nwaters\n")

    def test_the_first_such_row_counts(self):
        self.refused(MILL + "keeper 0\nkeeper 5\nplan\n")
        self.refused(MILL + "keeper x\nkeeper\n")
        self.assertEqual(run(MILL + "keeper 5\nkeeper 0\nplan\n"), "refused row\nplan\n")

    def test_each_refusal_of_a_canal(self):
        seen = set()
        for canal in BAD_CANALS.values():
            with self.assertRaises(CanalError) as caught:
                canal_of(canal)
            seen.add(type(caught.exception).__name__)
            self.refused(canal + "keeper\n")
            self.refused(canal + "keeper 5\nplan\nwork\ncome x a p up\n")
        self.assertEqual(seen, {"BadRow", "Twice", "Unknown", "BadNumber", "TooMany"})

    def test_a_canal_told_behind_the_keepers_row(self):
        self.refused("keeper\n" + MILL)
        self.refused("keeper\n")
        self.refused("reach a 0 50 1 10 sea\nlock p b a 10\nkeeper\nreach b 4 50 1 14 a\n")

    def test_both_at_once(self):
        self.refused("reach a 0 50 1 10\nkeeper 0\n")

    def test_an_asked_row_ahead_of_the_keepers(self):
        for row in ("work", "plan", "come x a p up", "pass x"):
            self.refused(MILL + row + "\nkeeper\n")

    def test_whatever_stands_behind(self):
        for behind in ("", "plan\n", "reach b 0 9 1 5 sea\n", "keeper\n" + MILL + "keeper\n", " \n"):
            self.assertEqual(run("weir\nkeeper\n" + behind), "refused canal\n")


class Wishes(Case):
    def test_a_yes_with_a_plan_and_without(self):
        house = house_of(MILL)
        self.answers(house, "come x a p up", "yes pass x")
        self.answers(house, "come y b p down", "yes pass x, pass y")
        self.answers(house, "pass x", "yes pass y")
        self.answers(house, "pass y", "yes")
        self.assertEqual(len(house.keeper().book().entries()), 4)

    def test_a_yes_to_each_kind(self):
        house = house_of(DROUGHT)
        self.answers(house, "come x a p up", "yes night, pass x")
        self.answers(house, "rain b 1", "yes night, pass x")
        self.answers(house, "take b 0", "yes pass x")
        self.answers(house, "take b 1", "yes night, pass x")
        self.answers(house, "night 0 0 1 0", "yes pass x")
        self.answers(house, "pass x", "yes")
        self.answers(house, "let p", "yes")
        self.answers(house, "night 2 1 0 0", "yes")
        self.assertEqual(house.keeper().book().entries(), [
            ("come", "x", "a", (("p", "up"),)), ("rain", "b", 1), ("take", "b", 0), ("take", "b", 1),
            ("night", ((0, 0), (1, 0))), ("pass", "x"), ("let", "p"), ("night", ((2, 1), (0, 0))),
        ])

    def test_a_let_in_a_plan(self):
        text = "reach a 0 50 1 0 sea\nreach b 0 50 1 10 a\nreach c 0 50 1 0 a\nlock p b a 10\nlock q c a 10 pump 10\n"
        house = house_of(text, "come x a p up", "pass x")
        self.answers(house, "come y a q up", "yes let p, pass y")
        self.answers(house, "work", "yes pass y")
        self.answers(house, "plan", "plan pass y")

    def test_a_no(self):
        house = house_of(MILL, *BOTH)
        # Behind each of these the night can come or not; more is not to be done.
        self.unchanged(house, "pass y", "no 2")
        self.unchanged(house, "take b 1", "no 2")
        self.answers(house, "pass x", "yes pass y")
        self.unchanged(house, "let p", "no 2")
        self.unchanged(house_of(NARROWS, "come x a p up q up"), "come y b p down p up", "no 1")

    def test_a_not_with_each_word(self):
        house = house_of(MILL, *BOTH)
        self.unchanged(house, "come z a p up", "not berth")
        self.unchanged(house, "let p", "not empty")
        self.unchanged(house, "take b 11", "not water")
        self.answers(house, "night 0 0 0 0", "yes pass x, pass y")
        self.unchanged(house, "night 0 0 0 0", "not over")
        self.answers(house, "pass x", "yes pass y")
        self.unchanged(house, "pass x", "not home")
        self.unchanged(house_of(DROUGHT, "come x a p up"), "pass x", "not water")
        self.unchanged(house_of(NARROWS, "come x a p up q up", "come y b p down"), "pass x", "not berth")

    def test_wetter_nights(self):
        house = house_of(DROUGHT, "come x a p up")
        self.answers(house, "night 7 0 30 0", "yes pass x")
        self.answers(house, "waters", "waters 7 39")
        self.answers(house, "night 2 0 0 0", "yes pass x")
        self.answers(house, "waters", "waters 9 39")

    def test_great_numbers(self):
        house = house_of(MILL)
        self.answers(house, f"rain b {GREATEST}", "yes")
        self.answers(house, "waters", "waters 50 50")
        self.unchanged(house, f"take b {GREATEST}", "not water")
        self.unchanged(house, f"rain b {GREATEST + 1}", "refused row")
        text = f"reach a 0 {GREATEST} 1 {GREATEST} sea\nreach b 0 {GREATEST} 1 {GREATEST} a\nlock p b a {GREATEST}\n"
        house = house_of(text)
        self.answers(house, "come x a p up", "yes pass x")
        self.answers(house, "work", "yes")
        self.answers(house, "waters", f"waters {GREATEST} 0")


class Others(Case):
    def test_work(self):
        house = house_of(MILL)
        self.unchanged(house, "work", "not done")
        house = house_of(MILL, *BOTH)
        self.answers(house, "work", "yes pass y")
        self.answers(house, "work", "yes")
        self.unchanged(house, "work", "not done")

    def test_work_does_a_night_as_foretold(self):
        house = house_of(DROUGHT, "come x a p up")
        self.answers(house, "work", "yes pass x")
        self.assertEqual(house.keeper().book().entries()[-1], ("night", ((0, 0), (1, 0))))

    def test_plan(self):
        house = house_of(MILL)
        self.unchanged(house, "plan", "plan")
        self.unchanged(house_of(MILL, *BOTH), "plan", "plan pass x, pass y")
        self.unchanged(house_of(DROUGHT, "come x a p up"), "plan", "plan night, pass x")

    def test_waters(self):
        self.unchanged(house_of(MILL), "waters", "waters 10 14")
        self.unchanged(house_of(STAIR), "waters", "waters 30 40 90")
        self.unchanged(house_of("reach a 0 9 1 50 sea\n"), "waters", "waters 9")
        self.unchanged(house_of("reach a 9 9 1 0 sea\n"), "waters", "waters 0")
        eight = "".join(f"reach {name} 0 50 1 {at} sea\n" for at, name in enumerate("abcdefgh"))
        self.unchanged(house_of(eight), "waters", "waters 0 1 2 3 4 5 6 7")

    def test_advice(self):
        house = house_of(ROOMY, "come s b a down", "come t b a down", "come u a a up", "come v a sea up",
                         "come w a a up")
        self.unchanged(house, "advice a", "advice u s w t")
        self.unchanged(house, "advice sea", "advice v")
        self.unchanged(house, "advice work", "advice")
        self.unchanged(house_of(MILL), "advice p", "advice")

    def test_advice_of_an_unknown_lock(self):
        house = house_of(ROOMY, "come s b a down")
        for name in ("b", "s", "none", "advice", "abcdefghijkl"):
            self.unchanged(house, "advice " + name, "refused unknown")

    def test_advice_that_is_none(self):
        house = house_of(ROOMY, "come s b a down")
        for row in ("advice", "advice ", "advice A", "advice 1", "advice a a", "advice  a", "advice a ", " advice a",
                    "advice abcdefghijklm", "Advice a", "advices a", "advice\ta", "advice a\t"):
            self.unchanged(house, row, "refused row")

    def test_knots_that_are_free(self):
        # No boat: the night has come or not.
        self.unchanged(house_of(MILL), "knots", "free 2")
        self.unchanged(house_of("reach a 0 9 1 5 sea\n"), "knots", "free 1")
        # The boat has passed or not; the chamber is let out behind it or not; and each of that by night or day.
        self.unchanged(house_of(MILL, BOTH[0]), "knots", "free 6")

    def test_a_knot_behind_some_deeds(self):
        house = house_of(MILL, *BOTH)
        kept = all_told(house)
        self.assertIn(house.ask("knots"), ("knot pass y, night", "knot night, pass y"))
        self.assertEqual(all_told(house), kept)
        house.ask("night 0 0 0 0")
        self.unchanged(house, "knots", "knot pass y")

    def test_a_let_in_a_row_to_a_knot(self):
        house = house_of(MILL, *BOTH, "night 0 0 0 0", "pass x")
        # Behind the let the boat down finds no water; before it, it is the next deed of the plan.
        self.unchanged(house, "knots", "knot let p")

    def test_a_knot_at_once(self):
        # Where a keeper stands a plan leads home, so no house is ever in a knot: the look is told here by hand.
        house = house_of(MILL, BOTH[0])
        with mock.patch("lockhouse.house.look_for_knot", return_value=("knot", [], [[1]])):
            self.unchanged(house, "knots", "knot")

    def test_knots_that_are_too_wide(self):
        self.unchanged(house_of(MILL, keeper="keeper 1"), "knots", "refused wide")
        self.unchanged(house_of(MILL, keeper="keeper 2"), "knots", "free 2")
        self.unchanged(house_of(MILL, BOTH[0], keeper="keeper 5"), "knots", "refused wide")
        self.unchanged(house_of(MILL, BOTH[0], keeper="keeper 6"), "knots", "free 6")

    def test_rows_of_no_kind(self):
        house = house_of(MILL, *BOTH)
        for row in ("", " ", "x", "work ", " work", "works", "Work", "WORK", "work x", "work 1", "plan ", "plan x",
                    "plans", "waters ", "waters a", "water", "knots ", "knots 5", "knot", "keeper", "keeper 5",
                    "night", "reach", "reach c 0 9 1 5 sea", "lock q b a 5", "night a 1 1", "work\t", "work\r",
                    "\twork", "refused", "yes",
                    "pass", "pass  x", "pass x ", "pass X", "let", "take b", "take b 01", "rain b -1", "come z a", "0",
                    "come z a p", "come z a p Up", "night 0", "night 0 0 0", "plan, plan", "work, work", "\u00e9"):
            self.unchanged(house, row, "refused row")


class Refusals(Case):
    def test_row(self):
        house = house_of(MILL, BOTH[0])
        for row in ("come Z a p up", "come abcdefghijklm a p up", "pass 1", "take b x", "night 0 0 0 0 0", "rain B 1"):
            self.unchanged(house, row, "refused row")

    def test_twice(self):
        house = house_of(MILL, BOTH[0])
        self.unchanged(house, BOTH[0], "refused twice")
        house.ask("work")
        self.unchanged(house, BOTH[0], "refused twice")

    def test_many(self):
        house = house_of(ROOMY)
        for name in "qrstuvwxy":
            self.answers(house, f"come {name} a a up", f"yes pass {name}")
            self.answers(house, "work", "yes")
        self.unchanged(house, "come z a a up", "refused many")

    def test_unknown(self):
        house = house_of(MILL, BOTH[0])
        for row in ("come z none p up", "come z sea p up", "come z p p up", "come z a none up", "come z a p up b down",
                    "pass y", "pass p", "let a", "let x", "take p 0", "take sea 1", "rain none 1", "rain x 0"):
            self.unchanged(house, row, "refused unknown")

    def test_linked(self):
        house = house_of(MILL)
        for row in ("come z b p up", "come z a p down", "come z a p up p up", "come z a p up p down p down"):
            self.unchanged(house, row, "refused linked")

    def test_number(self):
        house = house_of(MILL)
        for row in ("night 0 0", "night 0 0 0 0 0 0", "night" + " 0 0" * 8):
            self.unchanged(house, row, "refused number")

    def test_dry(self):
        house = house_of(DROUGHT, "come x a p up")
        for row in ("night 0 0 0 0", "night 0 0 1 1", "night 0 1 1 0", "night 9 0 0 0"):
            self.unchanged(house, row, "refused dry")

    def test_wide(self):
        self.unchanged(house_of(MILL, keeper="keeper 1"), BOTH[0], "refused wide")
        house = house_of(MILL, BOTH[0], keeper="keeper 3")
        self.answers(house, "plan", "plan pass x")
        self.unchanged(house, "come y b p down", "refused wide")
        self.answers(house, "night 0 0 0 0", "yes pass x")
        self.answers(house, "work", "yes")

    def test_of_two_reasons_the_first_one_told(self):
        house = house_of(MILL, BOTH[0])
        for row, answer in (
            # No name, and all else wrong, too; taken, and unknown or not linked; unknown, and not linked.
            ("come X none none up", "refused row"), ("come x none p up", "refused twice"), ("come x b p up",
                                                                                            "refused twice"),
            ("come x a none up", "refused twice"), ("come z none p down p down", "refused unknown"),
            ("come z b p up none up", "refused unknown"), ("come z b p up", "refused linked"),
            ("night 0 9", "refused number"), ("night 0 9 0 9 0 9", "refused number"),
            # A refusal comes ahead of a word why not: the only berth of reach a is taken.
            ("come z a p down", "refused linked"), ("come x a p up", "refused twice"), ("come z a p up", "not berth"),
            ("take none 999", "refused unknown"), ("pass none", "refused unknown"),
        ):
            self.unchanged(house, row, answer)
        house.ask("night 0 0 0 0")
        self.unchanged(house, "night 0 0", "refused number")
        self.unchanged(house, "night 0 9 0 9", "not over")

    def test_a_tenth_boat_and_another_reason(self):
        house = house_of(ROOMY)
        for name in "qrstuvwxy":
            house.ask(f"come {name} a a up")
            house.ask("work")
        for row, answer in (
            ("come Z a a up", "refused row"), ("come q a a up", "refused twice"), ("come z none a up", "refused many"),
            ("come z a none up", "refused many"), ("come z b a up", "refused many"),
        ):
            self.unchanged(house, row, answer)

    def test_a_word_why_not_comes_ahead_of_a_look(self):
        house = house_of(MILL, keeper="keeper 1")
        self.unchanged(house, "let p", "not empty")
        self.unchanged(house, "take b 11", "not water")
        self.unchanged(house, "come z b p up", "refused linked")
        self.unchanged(house, "come z a p up", "refused wide")


class Called(Case):
    """Boats called like words that are asked, and locks called like reaches."""

    def test_boats_called_like_words(self):
        names = ("keeper", "night", "work", "plan", "waters", "knots", "advice", "come", "sea")
        house = house_of(ROOMY)
        for name in names:
            self.answers(house, f"come {name} a sea up", f"yes pass {name}")
            self.answers(house, "plan", f"plan pass {name}")
            self.answers(house, "advice sea", f"advice {name}")
            self.answers(house, f"pass {name}", "yes")
        self.assertEqual(house.keeper().book().names(), list(names))

    def test_a_boat_called_night_beside_a_night(self):
        house = house_of(DROUGHT)
        self.answers(house, "come night a p up", "yes night, pass night")
        self.answers(house, "work", "yes pass night")
        self.unchanged(house, "night", "refused row")
        self.answers(house, "pass night", "yes")

    def test_locks_called_like_reaches_and_words(self):
        house = house_of(ROOMY)
        self.answers(house, "come a a a up a down", "yes pass a, pass a")
        self.answers(house, "pass a", "yes pass a")
        self.answers(house, "let a", "yes pass a")
        self.answers(house, "take a 10", "yes pass a")
        self.answers(house, "rain a 5", "yes pass a")
        self.answers(house, "waters", "waters 505 490")
        self.answers(house, "advice a", "advice a")
        self.unchanged(house, "take sea 1", "refused unknown")
        self.unchanged(house, "let b", "refused unknown")
        self.assertIn(house.ask("come work b work down"), ("yes pass a, pass work", "yes pass work, pass a"))

    def test_a_reach_and_a_lock_called_keeper(self):
        text = "reach keeper 0 50 1 10 sea\nreach work 4 50 1 14 keeper\nlock keeper work keeper 10\n"
        rows = "come keeper keeper keeper up\nadvice keeper\nwork\nrain keeper 5\nwaters\nlet keeper\nwaters\n"
        self.assertEqual(
            run(text + "keeper\n" + rows),
            "yes pass keeper\nadvice keeper\nyes\nyes\nwaters 15 4\nyes\nwaters 25 4\n",
        )


class Run(Case):
    def test_nothing_asked(self):
        for text in (MILL + "keeper", MILL + "keeper\n", MILL + "keeper 5\n\n\n"):
            self.assertEqual(run(text), "")

    def test_one_row_for_each_row(self):
        self.assertEqual(run(MILL + "keeper\nplan"), "plan\n")
        self.assertEqual(run(MILL + "keeper\nplan\nx\nplan\n"), "plan\nrefused row\nplan\n")

    def test_empty_rows_have_no_answer(self):
        text = MILL + "\n\nkeeper\n\n\nplan\n\n\n\nwaters\n\n"
        self.assertEqual(run(text), "plan\nwaters 10 14\n")

    def test_a_row_of_one_blank_has_one(self):
        self.assertEqual(run(MILL + "keeper\n \nplan\n\t\n"), "refused row\nplan\nrefused row\n")

    def test_a_second_keepers_row(self):
        self.assertEqual(run(MILL + "keeper 1\nkeeper 1000\nkeeper\ncome x a p up\n"),
                         "refused row\nrefused row\nrefused wide\n")

    def test_the_bound_where_none_is_told(self):
        text = "reach a 0 900 9 500 sea\nreach b 0 900 9 500 a\n" + "".join(f"lock {name} b a 1\n" for name in "pqrstu")
        rows = "".join(f"come {name} a {name} up\n" for name in "pqrstu")
        wide = {keeper: run(text + keeper + "\n" + rows) for keeper in ("keeper", "keeper 200", "keeper 1000")}
        self.assertEqual(wide["keeper"], wide["keeper 200"])
        self.assertIn("refused wide", wide["keeper"])
        self.assertNotIn("refused wide", wide["keeper 1000"])

    def test_the_same_answers_at_every_run(self):
        text = MILL + "keeper\n" + "\n".join(BOTH) + "\nknots\npass y\nwork\nplan\n"
        self.assertEqual(run(text), run(text))


class Own(Case):
    def test_told_answers_stay_and_the_keepers_lists_are_the_askers_own(self):
        house = house_of(MILL, *BOTH)
        plan, entries = house.keeper().plan(), house.keeper().book().entries()
        said = [house.ask("plan"), house.ask("waters")]
        house.ask("work")
        self.assertEqual((plan, len(entries)), ([("pass", 0), ("pass", 1)], 2))
        self.assertEqual(said, ["plan pass x, pass y", "waters 10 14"])
        house.keeper().plan().clear()
        house.keeper().book().do(("rain", "b", 30))
        house.keeper().book().names().clear()
        self.answers(house, "plan", "plan pass y")
        self.answers(house, "waters", "waters 10 4")

    def test_the_canal_stays_as_it_was(self):
        house = house_of(STAIR)
        for row in ("come x a p up", "work", "rain c 60", "night 9 0 9 0 9 0", "knots", "advice p", "take a 3",
                    "let p"):
            house.ask(row)
            self.assertEqual(told(house.canal()), told(canal_of(STAIR)))
        self.assertEqual(shown(house.canal()), STAIR[1:])


class Every(Case):
    """Houses of many canals, asked rows of all sorts, with a witness beside each."""

    def asked(self, house, witness, rows):
        said = []
        for row in rows:
            kept = all_told(house)
            answer = house.ask(row)
            said.append((row, answer))
            sort = witness.heard(row, answer)
            self.sorts[sort] = self.sorts.get(sort, 0) + 1
            self.assertRegex(answer, r"\A[ -~]+\Z")
            if sort not in ("yes", "kept", "worked"):
                self.assertEqual(all_told(house), kept)
            book = house.keeper().book()
            self.assertEqual((stands(book), house.keeper().plan()), (stands(witness.book), witness.plan))
            self.assertTrue(leads_home(book.canal(), book.ways(), book.state(), house.keeper().plan()))
        return said

    def test_many_houses(self):
        self.sorts = {}
        for book, source in some_books(130, 97):
            most = source.choice((1, 20, 60, 200))
            head = shown(book.canal()) + f"keeper {most}\n"
            house, witness = House(head), Witness(self, canal_of(shown(book.canal())), most)
            said = []
            for _ in range(25):
                said += self.asked(house, witness, [some_row(source, house.keeper().book())])
            # The text's answers are those that the house told one by one; only an empty row has none there.
            heard = [pair for pair in said if pair[0] != ""]
            self.assertEqual(run(head + "".join(row + "\n" for row, _ in heard)), "".join(a + "\n" for _, a in heard))
        wanted = {"yes", "kept", "worked", "no", "not", "plan", "waters", "advice", "knot", "free", "refused row",
                  "refused twice", "refused unknown", "refused linked", "refused number", "refused dry", "refused wide"}
        self.assertLessEqual(wanted, set(self.sorts))
        self.assertGreater(min(self.sorts[sort] for sort in wanted), 3)


if __name__ == "__main__":
    unittest.main()
