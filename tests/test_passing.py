"""2.5 and 2.6 (and 0.1, 0.3, 0.5): the words of a passage, its pours, and words that are done in a row."""

import unittest

from lockhouse.chamber import Chamber
from lockhouse.errors import Against, Full, NoBoat, NotNow, Short, Unknown
from lockhouse.kinds import BasinLock, PlainLock, PumpLock
from lockhouse.passing import filling, letting, passage, passing, work
from lockhouse.vessels import poured_all, total
from tests.helpers import EACH_STAND, LARGE, every_small_lock

VESSELS = ("high", "low", "chamber", "basin")
UP = ["open low", "in low", "shut low", "fill", "open high", "out high", "shut high"]
DOWN = ["open high", "in high", "shut high", "let", "open low", "out low", "shut low"]

PLAIN = PlainLock("gate", 1, 0, 40)
BASIN = BasinLock("gate", 1, 0, 40, 15)
PUMP = PumpLock("gate", 1, 0, 40, 15)


def every_passage(most=5):
    """Tuples (lock, full, basin, way) of all small locks."""
    for lock, basin in every_small_lock(most):
        for full in EACH_STAND:
            for way in ("up", "down"):
                yield lock, full, basin, way


def at_rest(lock, full, basin, reaches=(1000, 1000), least=(0, 0)):
    return Chamber(lock, reaches + (lock.room if full else 0, basin), least)


def numbered(pours):
    return [(VESSELS.index(source), VESSELS.index(target), amount) for source, target, amount in pours]


class Words(unittest.TestCase):
    def test_up(self):
        self.assertEqual(passing(False, "up"), UP)
        self.assertEqual(passing(True, "up"), ["let"] + UP)

    def test_down(self):
        self.assertEqual(passing(True, "down"), DOWN)
        self.assertEqual(passing(False, "down"), ["fill"] + DOWN)

    def test_what_is_told_is_the_askers_own(self):
        for full in EACH_STAND:
            for way in ("up", "down"):
                told = passing(full, way)
                self.assertIs(type(told), list)
                kept = list(told)
                told[0] = "wait"
                told.append("fill")
                self.assertEqual(passing(full, way), kept)


class FillingAndLetting(unittest.TestCase):
    def test_plain(self):
        self.assertEqual(filling(PLAIN, 0), [("high", "chamber", 40)])
        self.assertEqual(letting(PLAIN, 0), [("chamber", "low", 40)])

    def test_basin(self):
        self.assertEqual(filling(BASIN, 0), [("high", "chamber", 40)])
        self.assertEqual(filling(BASIN, 4), [("basin", "chamber", 4), ("high", "chamber", 36)])
        self.assertEqual(filling(BASIN, 15), [("basin", "chamber", 15), ("high", "chamber", 25)])
        self.assertEqual(letting(BASIN, 0), [("chamber", "basin", 15), ("chamber", "low", 25)])
        self.assertEqual(letting(BASIN, 4), [("chamber", "basin", 11), ("chamber", "low", 29)])
        self.assertEqual(letting(BASIN, 15), [("chamber", "low", 40)])

    def test_pump(self):
        self.assertEqual(filling(PUMP, 0), [("low", "chamber", 15), ("high", "chamber", 25)])
        self.assertEqual(letting(PUMP, 0), [("chamber", "low", 40)])

    def test_as_large_as_the_room(self):
        self.assertEqual(filling(BasinLock("gate", 1, 0, 40, 40), 40), [("basin", "chamber", 40)])
        self.assertEqual(letting(BasinLock("gate", 1, 0, 40, 40), 0), [("chamber", "basin", 40)])
        self.assertEqual(filling(PumpLock("gate", 1, 0, 40, 40), 0), [("low", "chamber", 40)])

    def test_the_parts_of_the_lock_in_their_order(self):
        for lock, basin in every_small_lock():
            self.assertEqual(filling(lock, basin), [(g, "chamber", a) for g, a in lock.fill_parts(basin)])
            self.assertEqual(letting(lock, basin), [("chamber", t, a) for t, a in lock.let_parts(basin)])

    def test_what_is_told_is_the_askers_own(self):
        for lock, basin in every_small_lock(3):
            for ask in (filling, letting):
                told = ask(lock, basin)
                self.assertIs(type(told), list)
                self.assertTrue(all(type(pour) is tuple and len(pour) == 3 for pour in told))
                kept = list(told)
                told.clear()
                self.assertEqual(ask(lock, basin), kept)


class Passage(unittest.TestCase):
    def test_plain(self):
        fill = ("high", "chamber", 40)
        let = ("chamber", "low", 40)
        self.assertEqual(passage(PLAIN, False, 0, "up"), [fill])
        self.assertEqual(passage(PLAIN, True, 0, "up"), [let, fill])
        self.assertEqual(passage(PLAIN, True, 0, "down"), [let])
        self.assertEqual(passage(PLAIN, False, 0, "down"), [fill, let])

    def test_pump(self):
        fill = [("low", "chamber", 15), ("high", "chamber", 25)]
        let = [("chamber", "low", 40)]
        self.assertEqual(passage(PUMP, False, 0, "up"), fill)
        self.assertEqual(passage(PUMP, True, 0, "up"), let + fill)
        self.assertEqual(passage(PUMP, True, 0, "down"), let)
        self.assertEqual(passage(PUMP, False, 0, "down"), fill + let)

    def test_basin_with_one_of_the_two(self):
        for basin in (0, 4, 15):
            self.assertEqual(passage(BASIN, False, basin, "up"), filling(BASIN, basin))
            self.assertEqual(passage(BASIN, True, basin, "down"), letting(BASIN, basin))

    def test_basin_up_from_full_fills_from_what_the_let_has_left(self):
        fill = [("basin", "chamber", 15), ("high", "chamber", 25)]
        self.assertEqual(passage(BASIN, True, 0, "up"), [("chamber", "basin", 15), ("chamber", "low", 25)] + fill)
        self.assertEqual(passage(BASIN, True, 4, "up"), [("chamber", "basin", 11), ("chamber", "low", 29)] + fill)
        self.assertEqual(passage(BASIN, True, 15, "up"), [("chamber", "low", 40)] + fill)

    def test_basin_down_from_empty_lets_to_what_the_fill_has_left(self):
        let = [("chamber", "basin", 15), ("chamber", "low", 25)]
        self.assertEqual(passage(BASIN, False, 0, "down"), [("high", "chamber", 40)] + let)
        self.assertEqual(passage(BASIN, False, 4, "down"), [("basin", "chamber", 4), ("high", "chamber", 36)] + let)
        self.assertEqual(passage(BASIN, False, 15, "down"), [("basin", "chamber", 15), ("high", "chamber", 25)] + let)

    def test_a_basin_as_large_as_the_room(self):
        lock = BasinLock("gate", 1, 0, 40, 40)
        self.assertEqual(passage(lock, True, 0, "up"), [("chamber", "basin", 40), ("basin", "chamber", 40)])
        self.assertEqual(passage(lock, False, 40, "down"), [("basin", "chamber", 40), ("chamber", "basin", 40)])
        self.assertEqual(passage(lock, True, 40, "down"), [("chamber", "low", 40)])

    def test_a_lift_as_large_as_the_room(self):
        lock = PumpLock("gate", 1, 0, 40, 40)
        self.assertEqual(passage(lock, True, 0, "up"), [("chamber", "low", 40), ("low", "chamber", 40)])
        self.assertEqual(passage(lock, False, 0, "down"), [("low", "chamber", 40), ("chamber", "low", 40)])

    def test_many_figures(self):
        lock = BasinLock("gate", 1, 0, LARGE, LARGE - 1)
        self.assertEqual(passage(lock, True, 1, "up"), [
            ("chamber", "basin", LARGE - 2), ("chamber", "low", 2),
            ("basin", "chamber", LARGE - 1), ("high", "chamber", 1),
        ])

    def test_no_part_of_nought(self):
        for lock, full, basin, way in every_passage():
            self.assertTrue(all(amount > 0 for source, target, amount in passage(lock, full, basin, way)))

    def test_triples_of_the_four_vessels(self):
        for lock, full, basin, way in every_passage():
            told = passage(lock, full, basin, way)
            self.assertIs(type(told), list)
            for pour in told:
                self.assertIs(type(pour), tuple)
                source, target, amount = pour
                self.assertIn(source, VESSELS)
                self.assertIn(target, VESSELS)
                self.assertEqual((source, target).count("chamber"), 1)

    def test_what_is_told_is_the_askers_own(self):
        for lock, full, basin, way in every_passage(3):
            ahead = dict(vars(lock))
            told = passage(lock, full, basin, way)
            kept = list(told)
            told.clear()
            self.assertEqual(passage(lock, full, basin, way), kept)
            self.assertEqual(vars(lock), ahead)


class PassageByWords(unittest.TestCase):
    def test_the_words_lead_from_rest_to_rest(self):
        for lock, full, basin, way in every_passage():
            with self.subTest(kind=lock.kind(), room=lock.room, extra=lock.extra(), basin=basin, full=full, way=way):
                machine = at_rest(lock, full, basin)
                work(machine, passing(full, way))
                self.assertEqual(machine.gates(), (False, False))
                self.assertIs(machine.boat(), False)
                self.assertEqual(machine.waters()[2], lock.room if way == "up" else 0)

    def test_the_pours_do_what_the_words_do(self):
        for lock, full, basin, way in every_passage():
            with self.subTest(kind=lock.kind(), room=lock.room, extra=lock.extra(), basin=basin, full=full, way=way):
                machine = at_rest(lock, full, basin)
                ahead = machine.waters()
                work(machine, passing(full, way))
                self.assertEqual(machine.waters(), poured_all(ahead, numbered(passage(lock, full, basin, way))))
                self.assertEqual(total(machine.waters()), total(ahead))

    def test_the_boat_is_inside_between_in_and_out(self):
        for lock, full, basin, way in every_passage(2):
            machine = at_rest(lock, full, basin)
            seen = []
            for word in passing(full, way):
                work(machine, [word])
                seen.append(machine.boat())
            words = passing(full, way)
            came = [word[:3] == "in " for word in words].index(True)
            left = [word[:4] == "out " for word in words].index(True)
            self.assertEqual(seen, [came <= at < left for at in range(len(words))])

    def test_passages_one_behind_the_other(self):
        for lock in (PLAIN, BASIN, PUMP):
            machine = at_rest(lock, False, 0)
            full = False
            for way in ("up", "down", "down", "up", "up", "down", "up"):
                waters = machine.waters()
                pours = numbered(passage(lock, full, waters[3], way))
                work(machine, passing(full, way))
                self.assertEqual(machine.waters(), poured_all(waters, pours))
                full = way == "up"


class Work(unittest.TestCase):
    def seen(self, machine):
        return machine.waters(), machine.gates(), machine.boat()

    def cut_short(self, lock, words, error, done, reaches=(1000, 1000)):
        """From a full chamber the words are refused with `error` behind the first `done` of them, which stay done."""
        other = at_rest(lock, True, 0, reaches)
        for word in words[:done]:
            other.do(word)
        machine = at_rest(lock, True, 0, reaches)
        with self.assertRaises(error) as caught:
            work(machine, words)
        self.assertIs(type(caught.exception), error)
        self.assertEqual(self.seen(machine), self.seen(other))
        return machine

    def test_no_word(self):
        machine = at_rest(PLAIN, True, 0)
        self.assertIsNone(work(machine, []))
        self.assertEqual(self.seen(machine), ((1000, 1000, 40, 0), (False, False), False))

    def test_tells_none(self):
        self.assertIsNone(work(at_rest(PLAIN, True, 0), ["let"]))

    def test_in_their_order(self):
        machine = at_rest(PLAIN, True, 0)
        work(machine, ["open high", "in high"])
        self.assertEqual(self.seen(machine), ((1000, 1000, 40, 0), (True, False), True))

    def test_refused_at_the_first_word(self):
        self.cut_short(PLAIN, ["fill", "let", "open low"], NotNow, 0)

    def test_refused_in_the_midst(self):
        self.cut_short(PLAIN, ["let", "open low", "fill", "in low", "shut low"], Against, 2)
        self.cut_short(PLAIN, ["open high", "in high", "in high", "shut high"], Full, 2)
        self.cut_short(PLAIN, ["open high", "out high", "in high"], NoBoat, 1)
        self.cut_short(PLAIN, ["open high", "shut", "shut high"], Unknown, 1)
        self.cut_short(PLAIN, ["let", "let", "fill"], NotNow, 1)

    def test_refused_at_the_last_word(self):
        self.cut_short(BASIN, ["let", "fill", "open high", "shut low"], NotNow, 3)

    def test_short_in_the_midst_of_a_passage(self):
        machine = self.cut_short(PLAIN, passing(True, "up"), Short, 4, (39, 0))
        self.assertEqual(self.seen(machine), ((39, 40, 0, 0), (False, False), True))

    def test_the_words_stay_as_they_were(self):
        words = passing(True, "up")
        kept = list(words)
        work(at_rest(PUMP, True, 0), words)
        self.assertEqual(words, kept)
        words = ["let", "let", "fill"]
        with self.assertRaises(NotNow):
            work(at_rest(PUMP, True, 0), words)
        self.assertEqual(words, ["let", "let", "fill"])


if __name__ == "__main__":
    unittest.main()
