"""9.3 and 9.4 (and 0.3): how deeds, rows of deeds and a keeper's answers are shown."""

import copy
import unittest

from lockhouse.answers import answer_shown, deeds_shown, knots_shown
from lockhouse.keeper import Keeper
from lockhouse.look import look_for_knot
from lockhouse.reading import canal_of
from tests.helpers import STAIR, book_behind, some_books, some_entry, told

# The locks of the stair are p, a and sea; boats are called like them, like reaches and like words.
NAMES = ["p", "night", "a", "sea", "let", "abcdefghijkl"]

NIGHT = ("night",)
MILL = "reach a 0 50 1 10 sea\nreach b 4 50 1 14 a\nlock p b a 10\nnight\n"
UP = ("come", "x", "a", (("p", "up"),))
DOWN = ("come", "y", "b", (("p", "down"),))

# States of some canal; what they hold is not shown.
STATE = (0, (1, 2, 3), (0,))


class Case(unittest.TestCase):
    def setUp(self):
        self.canal = canal_of(STAIR)

    def deeds(self, row, text, names=NAMES):
        kept = (told(self.canal), copy.deepcopy(row), list(names))
        self.assertEqual(deeds_shown(self.canal, names, row), text)
        self.assertEqual((told(self.canal), row, names), kept)

    def answer(self, answer, text, names=NAMES):
        kept = (told(self.canal), copy.deepcopy(answer), list(names))
        shown = answer_shown(self.canal, names, answer)
        self.assertEqual(shown, text)
        self.assertIs(type(shown), str)
        self.assertEqual((told(self.canal), answer, names), kept)


class Deeds(Case):
    def test_no_deeds(self):
        self.deeds([], "")
        self.deeds([], "", [])

    def test_one_deed(self):
        for boat, name in enumerate(NAMES):
            self.deeds([("pass", boat)], "pass " + name)
        for lock, name in enumerate(("p", "a", "sea")):
            self.deeds([("let", lock)], "let " + name)
        self.deeds([NIGHT], "night")
        self.deeds([NIGHT], "night", [])

    def test_several_deeds(self):
        self.deeds([("pass", 0), ("pass", 2)], "pass p, pass a")
        self.deeds([NIGHT, NIGHT], "night, night")
        self.deeds([("pass", 2), ("let", 0), NIGHT, ("let", 2), ("pass", 2)], "pass a, let p, night, let sea, pass a")

    def test_boats_and_locks_called_alike(self):
        self.deeds([("pass", 0), ("let", 0)], "pass p, let p")
        self.deeds([("pass", 2), ("let", 1)], "pass a, let a")
        self.deeds([("let", 2), ("pass", 3)], "let sea, pass sea")
        self.deeds([("pass", 1), NIGHT, ("pass", 4), ("let", 1)], "pass night, night, pass let, let a")

    def test_by_number_and_not_by_order(self):
        self.deeds([("pass", 1), ("pass", 0)], "pass y, pass x", ["x", "y"])
        self.deeds([("pass", 1), ("pass", 0)], "pass x, pass y", ["y", "x"])


class Answers(Case):
    def test_a_yes_with_an_empty_plan(self):
        self.answer(("yes", []), "yes")
        self.answer(("yes", []), "yes", [])

    def test_a_yes_with_a_plan(self):
        self.answer(("yes", [NIGHT]), "yes night")
        self.answer(("yes", [("pass", 1)]), "yes pass night")
        self.answer(("yes", [("pass", 0), ("let", 1), NIGHT]), "yes pass p, let a, night")

    def test_a_no(self):
        self.answer(("no", [[STATE]]), "no 1")
        self.answer(("no", [[STATE], [1, 2]]), "no 3")
        self.answer(("no", [[STATE], [1, 2, 3], [4], [5, 6, 7, 8, 9, 10]]), "no 11")

    def test_a_not_with_each_word(self):
        for word in ("home", "berth", "water", "empty", "over", "done"):
            self.answer(("not", word), "not " + word)

    def test_answers_of_a_keeper(self):
        keeper = Keeper(book_behind(UP, DOWN, text=MILL))
        canal = keeper.book().canal()
        answer = keeper.wish(("pass", "y"))
        self.assertGreater(len(answer[1]), 1)
        many = sum(len(layer) for layer in answer[1])
        self.assertEqual(answer_shown(canal, ["x", "y"], answer), f"no {many}")
        self.assertEqual(answer_shown(canal, ["x", "y"], keeper.wish(("let", "p"))), "not empty")
        self.assertEqual(answer_shown(canal, ["x", "y"], keeper.wish(("rain", "a", 1))), "yes pass x, pass y")
        self.assertEqual(answer_shown(canal, ["x", "y"], keeper.work()), "yes pass y")
        self.assertEqual(answer_shown(canal, ["x", "y"], keeper.work()), "yes")
        self.assertEqual(answer_shown(canal, ["x", "y"], keeper.work()), "not done")


class Knots(Case):
    def test_free(self):
        self.assertEqual(knots_shown(self.canal, NAMES, ("free", [[STATE]])), "free 1")
        self.assertEqual(knots_shown(self.canal, NAMES, ("free", [[STATE], [1, 2, 3], [4]])), "free 5")

    def test_a_knot(self):
        self.assertEqual(knots_shown(self.canal, NAMES, ("knot", [], [[STATE]])), "knot")
        found = ("knot", [NIGHT, ("pass", 2), ("let", 2)], [[STATE], [1], [2], [3]])
        self.assertEqual(knots_shown(self.canal, NAMES, found), "knot night, pass a, let sea")

    def test_what_a_look_tells(self):
        book = book_behind(UP, DOWN, text=MILL)
        found = look_for_knot(book.canal(), book.ways(), book.state(), 1000)
        text = knots_shown(book.canal(), book.names(), found)
        self.assertEqual(text, "knot " + deeds_shown(book.canal(), book.names(), found[1]))


class Every(unittest.TestCase):
    """Plans of many keepers are shown so that each deed can be read again."""

    def deed(self, book, shown):
        words = shown.split(" ")
        names = {"pass": book.names(), "let": [lock.name for lock in book.canal().locks]}
        return (words[0], names[words[0]].index(words[1])) if len(words) == 2 else tuple(words)

    def test_plans(self):
        seen = set()
        for book, source in some_books(80, 93):
            keeper = Keeper(book, 200)
            for _ in range(12):
                try:
                    keeper.wish(some_entry(source, keeper.book()))
                except ValueError:
                    continue
                now = keeper.book()
                text = deeds_shown(now.canal(), now.names(), keeper.plan())
                self.assertEqual([self.deed(now, shown) for shown in text.split(", ") if shown], keeper.plan())
                seen |= {deed[0] for deed in keeper.plan()}
        self.assertLessEqual({"pass", "night"}, seen)


if __name__ == "__main__":
    unittest.main()
