"""2.1 to 2.4 (and 0.1, 0.3, 0.5): the machine of a lock, its words and their refusals."""

import itertools
import unittest

from lockhouse.chamber import Chamber
from lockhouse.errors import Against, CanalError, Full, NoBoat, NotNow, Short, Unknown
from lockhouse.kinds import BasinLock, PlainLock, PumpLock
from lockhouse.vessels import total
from tests.helpers import LARGE, every_small_lock

WORDS = ("open high", "open low", "shut high", "shut low", "fill", "let", "in high", "in low", "out high", "out low")

PLAIN = PlainLock("gate", 1, 0, 40)
BASIN = BasinLock("gate", 1, 0, 40, 15)
PUMP = PumpLock("gate", 1, 0, 40, 15)

FULL = (100, 50, 40, 0)
EMPTY = (100, 50, 0, 0)


def made(waters, words=(), lock=PLAIN, least=(0, 0)):
    machine = Chamber(lock, waters, least)
    for word in words:
        machine.do(word)
    return machine


def seen(machine):
    return machine.waters(), machine.gates(), machine.boat()


class Machines(unittest.TestCase):
    def done(self, machine, word, waters, gates, boat):
        with self.subTest(word=word):
            self.assertIsNone(machine.do(word))
            self.assertEqual(seen(machine), (waters, gates, boat))

    def refused(self, machine, word, error):
        with self.subTest(word=word, error=error.__name__):
            ahead = seen(machine)
            with self.assertRaises(CanalError) as caught:
                machine.do(word)
            self.assertIs(type(caught.exception), error)
            self.assertEqual(seen(machine), ahead)


class Beginning(Machines):
    def test_both_gates_shut_and_no_boat(self):
        for waters in (FULL, EMPTY):
            self.assertEqual(seen(made(waters)), (waters, (False, False), False))

    def test_kinds_of_values(self):
        machine = made(FULL, ["open high", "in high"])
        self.assertIs(type(machine.waters()), tuple)
        self.assertIs(type(machine.gates()), tuple)
        self.assertEqual([type(gate) for gate in machine.gates()], [bool, bool])
        self.assertIs(machine.boat(), True)
        self.assertIs(made(FULL).boat(), False)

    def test_what_is_handed_in_stays_as_it_was(self):
        waters = (100, 50, 40, 3)
        least = (10, 5)
        ahead = dict(vars(BASIN))
        made(waters, ["let", "fill", "open high", "in high", "shut high", "let"], BASIN, least)
        self.assertEqual((waters, least, vars(BASIN)), ((100, 50, 40, 3), (10, 5), ahead))

    def test_what_is_told_stays_as_it_was(self):
        machine = made(FULL)
        told = seen(machine)
        for word in ("let", "open low", "in low"):
            machine.do(word)
        self.assertEqual(told, (FULL, (False, False), False))

    def test_two_machines_of_one_lock_go_their_own_ways(self):
        first = made(FULL)
        second = made(FULL)
        first.do("open high")
        first.do("in high")
        self.assertEqual(seen(second), (FULL, (False, False), False))
        second.do("let")
        self.assertEqual(seen(first), (FULL, (True, False), True))


class WordsDone(Machines):
    def test_open_and_shut(self):
        self.done(made(FULL), "open high", FULL, (True, False), False)
        self.done(made(EMPTY), "open low", EMPTY, (False, True), False)
        self.done(made(FULL, ["open high"]), "shut high", FULL, (False, False), False)
        self.done(made(EMPTY, ["open low"]), "shut low", EMPTY, (False, False), False)

    def test_in_and_out(self):
        self.done(made(FULL, ["open high"]), "in high", FULL, (True, False), True)
        self.done(made(EMPTY, ["open low"]), "in low", EMPTY, (False, True), True)
        self.done(made(FULL, ["open high", "in high"]), "out high", FULL, (True, False), False)
        self.done(made(EMPTY, ["open low", "in low"]), "out low", EMPTY, (False, True), False)

    def test_fill_and_let_with_and_without_a_boat(self):
        self.done(made(EMPTY), "fill", (60, 50, 40, 0), (False, False), False)
        self.done(made(FULL), "let", (100, 90, 0, 0), (False, False), False)
        self.done(made(EMPTY, ["open low", "in low", "shut low"]), "fill", (60, 50, 40, 0), (False, False), True)
        self.done(made(FULL, ["open high", "in high", "shut high"]), "let", (100, 90, 0, 0), (False, False), True)

    def test_a_boat_may_go_out_where_it_came_in_and_another_come(self):
        machine = made(FULL, ["open high", "in high", "shut high", "open high", "out high", "in high"])
        self.assertEqual(seen(machine), (FULL, (True, False), True))

    def test_a_boat_comes_in_at_one_side_and_goes_out_at_the_other(self):
        machine = made(EMPTY, ["open low", "in low", "shut low", "fill", "open high", "out high"])
        self.assertEqual(seen(machine), ((60, 50, 40, 0), (True, False), False))

    def test_a_gate_is_opened_again(self):
        machine = made(FULL, ["open high", "shut high", "open high"])
        self.assertEqual(machine.gates(), (True, False))


class FillAndLetByKind(Machines):
    def fill(self, lock, ahead, behind):
        self.done(made(ahead, [], lock), "fill", behind, (False, False), False)

    def let(self, lock, ahead, behind):
        self.done(made(ahead, [], lock), "let", behind, (False, False), False)

    def test_plain(self):
        self.fill(PLAIN, (100, 50, 0, 0), (60, 50, 40, 0))
        self.let(PLAIN, (100, 50, 40, 0), (100, 90, 0, 0))

    def test_pump(self):
        self.fill(PUMP, (100, 50, 0, 0), (75, 35, 40, 0))
        self.let(PUMP, (100, 50, 40, 0), (100, 90, 0, 0))

    def test_basin_empty_partly_filled_and_full(self):
        self.fill(BASIN, (100, 50, 0, 0), (60, 50, 40, 0))
        self.fill(BASIN, (100, 50, 0, 4), (64, 50, 40, 0))
        self.fill(BASIN, (100, 50, 0, 15), (75, 50, 40, 0))
        self.let(BASIN, (100, 50, 40, 0), (100, 75, 0, 15))
        self.let(BASIN, (100, 50, 40, 4), (100, 79, 0, 15))
        self.let(BASIN, (100, 50, 40, 15), (100, 90, 0, 15))

    def test_as_large_as_the_room(self):
        self.fill(BasinLock("gate", 1, 0, 40, 40), (100, 50, 0, 40), (100, 50, 40, 0))
        self.let(BasinLock("gate", 1, 0, 40, 40), (100, 50, 40, 0), (100, 50, 0, 40))
        self.fill(PumpLock("gate", 1, 0, 40, 40), (100, 50, 0, 0), (100, 10, 40, 0))

    def test_a_room_of_one(self):
        self.fill(PlainLock("gate", 1, 0, 1), (1, 0, 0, 0), (0, 0, 1, 0))
        self.let(PlainLock("gate", 1, 0, 1), (0, 0, 1, 0), (0, 1, 0, 0))

    def test_many_figures(self):
        lock = PlainLock("gate", 1, 0, LARGE)
        self.fill(lock, (LARGE + 3, 5, 0, 0), (3, 5, LARGE, 0))
        self.let(lock, (3, 5, LARGE, 0), (3, LARGE + 5, 0, 0))

    def test_none_is_made_and_none_is_lost(self):
        for lock, basin in every_small_lock():
            machine = made((99, 99, 0, basin), [], lock)
            for word in ("fill", "let", "fill"):
                machine.do(word)
                self.assertEqual(total(machine.waters()), 198 + basin)

    def test_a_let_is_never_refused_for_want_of_water(self):
        self.done(made((0, 0, 40, 0), [], PLAIN, (10, 10)), "let", (0, 40, 0, 0), (False, False), False)
        self.done(made((0, 0, 40, 0), [], BASIN, (99, 99)), "let", (0, 25, 0, 15), (False, False), False)


class Refusals(Machines):
    def test_open_not_now_where_it_is_open(self):
        self.refused(made(FULL, ["open high"]), "open high", NotNow)
        self.refused(made(EMPTY, ["open low"]), "open low", NotNow)

    def test_open_against_the_other_gate(self):
        self.refused(made(FULL, ["open high"]), "open low", Against)
        self.refused(made(EMPTY, ["open low"]), "open high", Against)

    def test_open_against_the_level(self):
        self.refused(made(FULL), "open low", Against)
        self.refused(made(EMPTY), "open high", Against)

    def test_shut_not_now(self):
        self.refused(made(FULL), "shut high", NotNow)
        self.refused(made(FULL), "shut low", NotNow)
        self.refused(made(EMPTY), "shut low", NotNow)
        self.refused(made(FULL, ["open high"]), "shut low", NotNow)
        self.refused(made(EMPTY, ["open low"]), "shut high", NotNow)

    def test_fill_and_let_against_an_open_gate(self):
        self.refused(made(EMPTY, ["open low"]), "fill", Against)
        self.refused(made(FULL, ["open high"]), "let", Against)

    def test_fill_and_let_not_now(self):
        self.refused(made(FULL), "fill", NotNow)
        self.refused(made(EMPTY), "let", NotNow)
        self.refused(made(FULL, ["let"]), "let", NotNow)
        self.refused(made(EMPTY, ["fill"]), "fill", NotNow)

    def test_in_not_now(self):
        self.refused(made(FULL), "in high", NotNow)
        self.refused(made(EMPTY), "in low", NotNow)
        self.refused(made(FULL, ["open high"]), "in low", NotNow)
        self.refused(made(EMPTY, ["open low"]), "in high", NotNow)

    def test_in_full(self):
        self.refused(made(FULL, ["open high", "in high"]), "in high", Full)
        self.refused(made(EMPTY, ["open low", "in low"]), "in low", Full)

    def test_out_not_now(self):
        self.refused(made(FULL, ["open high", "in high", "shut high"]), "out high", NotNow)
        self.refused(made(EMPTY, ["open low", "in low", "shut low"]), "out low", NotNow)
        self.refused(made(FULL, ["open high", "in high"]), "out low", NotNow)
        self.refused(made(EMPTY, ["open low", "in low"]), "out high", NotNow)

    def test_out_no_boat(self):
        self.refused(made(FULL, ["open high"]), "out high", NoBoat)
        self.refused(made(EMPTY, ["open low"]), "out low", NoBoat)
        self.refused(made(FULL, ["open high", "in high", "out high"]), "out high", NoBoat)


class TheFirstOneTold(Machines):
    """Where several refusals hold at once, the one that is told first comes out."""

    def test_fill_with_a_gate_open_and_a_full_chamber(self):
        self.refused(made(FULL, ["open high"]), "fill", Against)

    def test_fill_with_a_gate_open_and_too_little_water(self):
        self.refused(made((0, 0, 0, 0), ["open low"]), "fill", Against)

    def test_fill_with_all_three(self):
        self.refused(made((0, 0, 40, 0), ["open high"]), "fill", Against)

    def test_fill_with_a_full_chamber_and_too_little_water(self):
        self.refused(made((0, 0, 40, 0)), "fill", NotNow)

    def test_let_with_a_gate_open_and_an_empty_chamber(self):
        self.refused(made(EMPTY, ["open low"]), "let", Against)

    def test_in_with_the_gate_shut_and_a_boat_inside(self):
        self.refused(made(FULL, ["open high", "in high", "shut high"]), "in high", NotNow)
        self.refused(made(FULL, ["open high", "in high"]), "in low", NotNow)

    def test_out_with_the_gate_shut_and_no_boat(self):
        self.refused(made(FULL), "out high", NotNow)
        self.refused(made(FULL, ["open high"]), "out low", NotNow)
        self.refused(made(EMPTY), "out low", NotNow)

    def test_an_unknown_text_whatever_else_holds(self):
        self.refused(made((0, 0, 0, 0), ["open low", "in low"]), "fill high", Unknown)


class ShortOfWater(Machines):
    def edge(self, lock, waters, least, which):
        """A fill leaves the reach `which` just its least; with one less there it is refused."""
        more = tuple(water + (at == which) for at, water in enumerate(waters))
        less = tuple(water - (at == which) for at, water in enumerate(waters))
        for held, kept in ((waters, least[which]), (more, least[which] + 1)):
            machine = made(held, [], lock, least)
            self.assertIsNone(machine.do("fill"))
            self.assertEqual(machine.waters()[which], kept)
        self.refused(made(less, [], lock, least), "fill", Short)
        self.refused(made(less, ["open low", "in low", "shut low"], lock, least), "fill", Short)

    def test_plain(self):
        self.edge(PLAIN, (50, 0, 0, 0), (10, 0), 0)
        self.edge(PLAIN, (40, 0, 0, 0), (0, 0), 0)

    def test_basin_empty_partly_filled_and_full(self):
        self.edge(BASIN, (50, 0, 0, 0), (10, 0), 0)
        self.edge(BASIN, (46, 0, 0, 4), (10, 0), 0)
        self.edge(BASIN, (35, 0, 0, 15), (10, 0), 0)
        self.edge(BasinLock("gate", 1, 0, 40, 40), (11, 0, 0, 39), (10, 0), 0)

    def test_pump_by_the_high_reach(self):
        self.edge(PUMP, (35, 99, 0, 0), (10, 7), 0)
        self.edge(PumpLock("gate", 1, 0, 40, 39), (11, 99, 0, 0), (10, 7), 0)

    def test_pump_by_the_low_reach(self):
        self.edge(PUMP, (99, 22, 0, 0), (10, 7), 1)
        self.edge(PUMP, (99, 15, 0, 0), (10, 0), 1)
        self.edge(PumpLock("gate", 1, 0, 40, 40), (99, 47, 0, 0), (10, 7), 1)

    def test_pump_by_both(self):
        self.refused(made((34, 21, 0, 0), [], PUMP, (10, 7)), "fill", Short)
        self.done(made((35, 22, 0, 0), [], PUMP, (10, 7)), "fill", (10, 7, 40, 0), (False, False), False)

    def test_a_reach_that_gives_nothing_may_stand_below_its_least(self):
        shut = (False, False)
        self.done(made((50, 0, 0, 0), [], PLAIN, (10, 99)), "fill", (10, 0, 40, 0), shut, False)
        self.done(made((50, 0, 0, 5), [], BASIN, (10, 99)), "fill", (15, 0, 40, 0), shut, False)
        lock = BasinLock("gate", 1, 0, 40, 40)
        self.done(made((0, 0, 0, 40), [], lock, (10, 99)), "fill", (0, 0, 40, 0), shut, False)
        lock = PumpLock("gate", 1, 0, 40, 40)
        self.done(made((0, 47, 0, 0), [], lock, (10, 7)), "fill", (0, 7, 40, 0), shut, False)

    def test_a_basin_has_no_least(self):
        self.done(made((100, 50, 0, 15), [], BASIN, (75, 50)), "fill", (75, 50, 40, 0), (False, False), False)

    def test_a_reach_that_stands_below_its_least_already(self):
        self.refused(made((45, 50, 0, 0), [], PLAIN, (60, 0)), "fill", Short)
        self.refused(made((99, 20, 0, 0), [], PUMP, (0, 30)), "fill", Short)


class NoWords(Machines):
    def test_other_texts(self):
        for word in ("", " ", "open", "shut", "in", "out", "high", "low", "open  high", "open\thigh", "open\nhigh",
                     " open high", "open high ", "open high\n", "fill ", " fill", "fill\n", "let ", "Open high",
                     "open High", "OPEN HIGH", "Fill", "FILL", "Let", "fill high", "fill low", "let low", "open_high",
                     "openhigh", "open\u00a0high", "open up", "open basin", "open side", "close high", "empty", "wait",
                     "high open", "in high low", "open high low", "None", "0", "f", "fil", "fills", "lets",
                     "open high, open low", "\uff46ill", "x" * 5000):
            for waters in (FULL, EMPTY):
                self.refused(made(waters), word, Unknown)

    def test_also_with_a_gate_open_and_a_boat_inside(self):
        for word in ("", "open", "In high", "out  high", "fill low"):
            self.refused(made(FULL, ["open high", "in high"]), word, Unknown)


def holding_refusals(lock, least, machine, word):
    """What 2.3 tells of a word: pairs (whether it holds, the refusal), in the order told there."""
    waters, gates, boat = seen(machine)
    verb, blank, side = word.partition(" ")
    mine = gates[0] if side == "high" else gates[1]
    other = gates[1] if side == "high" else gates[0]
    level = waters[2] == (lock.room if side == "high" else 0)
    gives = dict(lock.fill_parts(waters[3]))
    short = [name for at, name in enumerate(("high", "low")) if name in gives and waters[at] - gives[name] < least[at]]
    return {
        "open": [(mine, NotNow), (other, Against), (not level, Against)],
        "shut": [(not mine, NotNow)],
        "fill": [(any(gates), Against), (waters[2] == lock.room, NotNow), (short != [], Short)],
        "let": [(any(gates), Against), (waters[2] == 0, NotNow)],
        "in": [(not mine, NotNow), (boat, Full)],
        "out": [(not mine, NotNow), (not boat, NoBoat)],
    }[verb]


class EveryState(Machines):
    """All words in all states that a machine comes to from rest with so much water."""

    def states(self, lock, waters, least, most=3000):
        """A row of words that leads to each state."""
        rows = {seen(made(waters, [], lock, least)): []}
        fresh = list(rows)
        while fresh and len(rows) < most:
            state = fresh.pop()
            for word in WORDS:
                machine = made(waters, rows[state], lock, least)
                try:
                    machine.do(word)
                except CanalError:
                    continue
                if seen(machine) not in rows:
                    rows[seen(machine)] = rows[state] + [word]
                    fresh.append(seen(machine))
        self.assertLess(len(rows), most)
        return list(rows.values())

    def machines(self):
        for lock in (PlainLock("gate", 1, 0, 2), BasinLock("gate", 1, 0, 3, 2), BasinLock("gate", 1, 0, 2, 2),
                     PumpLock("gate", 1, 0, 3, 1), PumpLock("gate", 1, 0, 2, 2)):
            for full, least in itertools.product((0, lock.room), ((0, 0), (1, 2))):
                waters = (5, 2, full, 0)
                yield lock, waters, least, self.states(lock, waters, least)

    def test_each_word_is_done_or_refused_as_told(self):
        met = set()
        for lock, waters, least, rows in self.machines():
            for row, word in itertools.product(rows, WORDS):
                machine = made(waters, row, lock, least)
                wanted = [error for holds, error in holding_refusals(lock, least, machine, word) if holds]
                met.add((word, wanted[0].__name__ if wanted else ""))
                if wanted:
                    self.refused(machine, word, wanted[0])
                else:
                    machine.do(word)
        # Each word was met done, and each refusal of each word.
        self.assertEqual(len(met), 2 * 3 + 2 * 2 + 4 + 3 + 4 * 3)

    def test_never_both_gates_open_and_an_open_gate_at_its_level(self):
        for lock, waters, least, rows in self.machines():
            for row in rows:
                machine = made(waters, row, lock, least)
                high, low = machine.gates()
                self.assertFalse(high and low)
                if high:
                    self.assertEqual(machine.waters()[2], lock.room)
                if low:
                    self.assertEqual(machine.waters()[2], 0)

    def test_no_water_is_made_or_lost_and_none_stands_below_nought(self):
        for lock, waters, least, rows in self.machines():
            for row in rows:
                held = made(waters, row, lock, least).waters()
                self.assertEqual(total(held), total(waters))
                self.assertGreaterEqual(min(held), 0)
                self.assertIn(held[2], (0, lock.room))


if __name__ == "__main__":
    unittest.main()
