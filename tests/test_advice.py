"""7.9 (and 0.3, 3.2): who waits at a lock, and the advice for it."""

import unittest

from lockhouse.advice import advice, waiting
from lockhouse.errors import CanalError, Unknown
from lockhouse.turns import thrifty
from tests.helpers import FAR, UP, book_behind, some_books, some_entry, stands

# Berths for all, water for all; the lock p is called like no reach, the lock a like one.
ROOMY = "reach a 0 900 9 500 sea\nreach b 0 900 9 500 a\nlock p b a 10\nlock a b a 10\nlock q b a 10 basin 3\n"


def up(name, lock="p"):
    return ("come", name, "a", ((lock, "up"),))


def down(name, lock="p"):
    return ("come", name, "b", ((lock, "down"),))


def roomy(*entries):
    return book_behind(*entries, text=ROOMY)


class Advice(unittest.TestCase):
    def told(self, book, name, row, order):
        kept = stands(book)
        self.assertEqual(waiting(book, name), row)
        self.assertEqual(advice(book, name), order)
        self.assertEqual(stands(book), kept)

    def test_no_boat_at_all(self):
        for name in ("p", "a", "q"):
            self.told(roomy(), name, [], [])

    def test_no_boat_waits_there(self):
        self.told(roomy(up("x", "a"), down("y", "q")), "p", [], [])

    def test_one_boat(self):
        self.told(roomy(up("x")), "p", ["x"], ["x"])
        self.told(roomy(down("x")), "p", ["x"], ["x"])

    def test_boats_from_both_sides_at_an_empty_chamber(self):
        row = (down("s"), down("t"), up("u"), up("v"), down("w"))
        self.told(roomy(*row), "p", ["s", "t", "u", "v", "w"], ["u", "s", "v", "t", "w"])

    def test_boats_from_both_sides_at_a_full_chamber(self):
        row = (up("x"), ("pass", "x"), up("s"), up("t"), down("u"), down("v"), up("w"))
        self.told(roomy(*row), "p", ["s", "t", "u", "v", "w"], ["u", "s", "v", "t", "w"])
        self.told(roomy(*row, ("let", "p")), "p", ["s", "t", "u", "v", "w"], ["s", "u", "t", "v", "w"])

    def test_all_of_one_way(self):
        row = (up("z"), up("y"), up("x"))
        self.told(roomy(*row), "p", ["z", "y", "x"], ["z", "y", "x"])
        self.told(roomy(up("w"), ("pass", "w"), *row), "p", ["z", "y", "x"], ["z", "y", "x"])

    def test_the_chamber_of_this_lock_and_no_other(self):
        row = (up("x", "a"), ("pass", "x"), down("s"), up("t"), down("u", "a"), up("v", "a"))
        self.told(roomy(*row), "p", ["s", "t"], ["t", "s"])
        self.told(roomy(*row), "a", ["u", "v"], ["u", "v"])

    def test_boats_that_are_home_wait_nowhere(self):
        self.told(roomy(up("x"), up("y"), ("pass", "x")), "p", ["y"], ["y"])
        self.told(roomy(up("x"), ("pass", "x")), "p", [], [])

    def test_a_boat_waits_where_its_next_step_leads_alone(self):
        far = ("come", "x", "a", (("p", "up"), ("a", "down"), ("p", "up")))
        book = roomy(far, down("y"))
        self.told(book, "p", ["x", "y"], ["x", "y"])
        self.told(book, "a", [], [])
        book.do(("pass", "x"))
        self.told(book, "p", ["y"], ["y"])
        self.told(book, "a", ["x"], ["x"])
        book.do(("pass", "x"))
        # In the order in which they came, not in that in which they came to the lock; the chamber is full.
        self.told(book, "p", ["x", "y"], ["y", "x"])

    def test_a_boat_that_cannot_go_yet_waits_too(self):
        book = book_behind(UP, FAR, ("come", "z", "b", (("p", "down"),)), ("take", "b", 35))
        self.assertEqual(book.fault(("pass", "y")), "berth")
        self.assertEqual(book.fault(("pass", "x")), "water")
        self.told(book, "p", ["x", "y", "z"], ["x", "z", "y"])

    def test_a_name_that_no_lock_has(self):
        book = roomy(up("x"), down("y"))
        for name in ("b", "x", "sea", "", "P", "pp"):
            for call in (waiting, advice):
                with self.assertRaises(CanalError) as caught:
                    call(book, name)
                self.assertIs(type(caught.exception), Unknown)

    def test_what_is_told_is_the_askers_own(self):
        book = roomy(up("x"), down("y"))
        kept = stands(book)
        row, order = waiting(book, "p"), advice(book, "p")
        self.assertIs(type(row), list)
        self.assertIs(type(order), list)
        book.do(("pass", "x"))
        self.assertEqual((row, order), (["x", "y"], ["x", "y"]))
        book = roomy(up("x"), down("y"))
        waiting(book, "p").clear()
        advice(book, "p").clear()
        self.told(book, "p", ["x", "y"], ["x", "y"])
        self.assertEqual(stands(book), kept)

    def test_many_books(self):
        seen = 0
        for book, source in some_books(200, 83):
            for _ in range(20):
                try:
                    book.do(some_entry(source, book))
                except CanalError:
                    pass
            canal, state = book.canal(), book.state()
            for k, lock in enumerate(canal.locks):
                row = [(name, way[1][place][1]) for name, way, place in zip(book.names(), book.ways(), state[2])
                       if way[1][place:place + 1] and way[1][place][0] == k]
                order = thrifty(state[1][canal.chamber(k)] > 0, [side for _, side in row])
                self.told(book, lock.name, [name for name, _ in row], [row[place][0] for place in order])
                seen += 1 if [name for name, _ in row] != [row[place][0] for place in order] else 0
        self.assertGreater(seen, 5)


if __name__ == "__main__":
    unittest.main()
