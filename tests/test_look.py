"""6.6 and 6.7 (and 0.2, 0.3, 0.5): looks for a homecoming and for a knot, and papers that show there is none."""

import random
import unittest

from lockhouse.boats import all_home, begun, rank
from lockhouse.deeds import after, may
from lockhouse.errors import TooWide
from lockhouse.look import is_knot, leads_home, look, look_for_knot, shows_doom, shows_free
from lockhouse.papers import shows_closed, shows_found
from lockhouse.reading import canal_of
from lockhouse.walking import as_wet, walked
from tests.helpers import ahead_on, distances, mill, some_worlds, told

MOST = 1000
NIGHT = ("night",)

# One lock between two reaches; the high one has 4 above its least, and a fill takes 10.
DRY = "reach a 0 50 1 10 sea\nreach b 4 50 1 8 a\nlock p b a 10\n"
UP = (0, ((0, "up"),))
DOWN = (1, ((0, "down"),))


def dry(nights=""):
    return canal_of(DRY + nights)


def still_mill():
    """The mill without its night: behind the pass down the boat up is left in a knot."""
    canal, ways = mill()
    canal.nights.clear()
    return canal, ways


def edges_of(canal, ways, first, most):
    """The deeds and states behind every state that is come to, or None where there are more than `most` of these."""
    ahead = ahead_on(canal, ways)[0]
    edges = {}
    waiting = [first]
    while waiting:
        state = waiting.pop()
        if state not in edges:
            edges[state] = ahead(state)
            waiting.extend(behind for _, behind in edges[state])
        if len(edges) > most:
            return None
    return edges


def nearest(first, edges, is_end):
    """How far the nearest state is that ends, or None; and how many states stand no farther than that, or at all."""
    far = distances(first, edges)
    ends = [far[state] for state in far if is_end(state)]
    if not ends:
        return None, len(far)
    return min(ends), len([state for state in far if far[state] <= min(ends)])


def small_worlds(many, seed, most=250):
    """Canals, ways, first states and edges, as many states as are quickly walked through."""
    for canal, ways in some_worlds(many, seed):
        first = begun(canal, ways[:3])
        edges = edges_of(canal, ways[:3], first, most)
        if edges is not None:
            yield canal, ways[:3], first, edges


class Case(unittest.TestCase):
    def wide(self, call, *handed):
        with self.assertRaises(TooWide) as caught:
            call(*handed)
        self.assertIs(type(caught.exception), TooWide)

    def bounds(self, call, canal, ways, state):
        """As many states as there are, one more, one less, and one."""
        answer = call(canal, ways, state, MOST)
        many = sum(len(layer) for layer in answer[-1])
        self.assertEqual(call(canal, ways, state, many), answer)
        self.assertEqual(call(canal, ways, state, many + 1), answer)
        self.wide(call, canal, ways, state, many - 1)
        self.wide(call, canal, ways, state, 1)


class Look(Case):
    def test_no_boats_at_all(self):
        canal = dry("night a 1 1\n")
        state = begun(canal, [])
        self.assertEqual(look(canal, [], state, 1), ("home", [], [[state]]))
        self.assertEqual(look(canal, [], state, MOST), ("home", [], [[state]]))

    def test_every_boat_is_home_already(self):
        canal, ways = mill()
        state = (0, canal.start(), (1, 1))
        self.assertEqual(look(canal, ways, state, 1), ("home", [], [[state]]))
        self.assertEqual(look(canal, ways, state, MOST), ("home", [], [[state]]))

    def test_a_boat_is_led_home(self):
        canal, ways = mill()
        state = begun(canal, ways)
        kind, plan, layers = look(canal, ways, state, MOST)
        self.assertEqual((kind, plan), ("home", [("pass", 0), ("pass", 1)]))
        self.assertEqual(layers[0], [state])
        self.assertEqual(set(layers[1]), {after(canal, ways, state, deed) for deed in may(canal, ways, state)})
        self.assertEqual(len(layers), 3)

    def test_the_plan_takes_a_let_and_a_night_where_they_are_wanted(self):
        canal = canal_of(
            "reach a 0 50 1 0 sea\nreach b 0 50 1 10 a\nreach c 0 50 1 0 a\n"
            "lock p b a 10\nlock q c a 10 pump 10\nnight b 0 0\nnight b 3 0\n"
        )
        # The first boat leaves its chamber full; let out, it is what the pump lifts for the other one.
        ways = [UP, (0, ((1, "up"),))]
        self.assertEqual(look(canal, ways, begun(canal, ways), MOST)[1], [("pass", 0), ("let", 0), ("pass", 1)])
        canal = canal_of("reach a 0 50 1 0 sea\nreach b 0 50 1 9 a\nlock p b a 10\nnight b 0 0\nnight b 1 0\n")
        self.assertEqual(look(canal, [UP], begun(canal, [UP]), MOST)[1], [NIGHT, NIGHT, ("pass", 0)])

    def test_a_state_that_is_doomed_at_once(self):
        canal = dry()
        state = begun(canal, [UP])
        self.assertEqual(look(canal, [UP], state, 1), ("doomed", [[state]]))
        self.assertEqual(look(canal, [UP], state, MOST), ("doomed", [[state]]))

    def test_a_doomed_state_from_which_deeds_still_lead(self):
        canal = dry("night b 2 1\nnight a 1 0\n")
        state = begun(canal, [UP])
        one = after(canal, [UP], state, NIGHT)
        two = after(canal, [UP], one, NIGHT)
        self.assertEqual(look(canal, [UP], state, 3), ("doomed", [[state], [one], [two]]))
        canal, ways = mill()
        doomed = after(canal, ways, begun(canal, ways), ("pass", 1))
        self.assertEqual(look(canal, ways, doomed, MOST)[0], "doomed")

    def test_one_boat_that_is_doomed_dooms_all(self):
        canal = dry()
        ways = [DOWN, UP]
        full = (0, (10, 8, 10, 0, 0, 0), (0, 0))
        kind, layers = look(canal, ways, full, MOST)
        self.assertEqual(kind, "doomed")
        self.assertIn((0, (20, 8, 0, 0, 0, 0), (1, 0)), layers[1])

    def test_a_bound_of_just_as_many_states_one_less_and_one(self):
        canal, ways = mill()
        first = begun(canal, ways)
        self.bounds(look, canal, ways, first)
        self.bounds(look, canal, ways, after(canal, ways, first, ("pass", 1)))

    def test_too_wide_though_the_layer_beyond_holds_a_homecoming(self):
        canal = dry("night a 1 0\n")
        full = (0, (10, 8, 10, 0, 0, 0), (0,))
        self.assertEqual(look(canal, [DOWN], full, 4)[1], [("pass", 0)])
        self.wide(look, canal, [DOWN], full, 3)

    def test_what_is_handed_in_stays_and_what_is_told_is_the_askers_own(self):
        canal, ways = mill()
        state = begun(canal, ways)
        kept = look(canal, ways, state, MOST)
        answer = look(canal, ways, state, MOST)
        answer[1].clear()
        answer[2][1].clear()
        answer[2].clear()
        self.assertEqual(look(canal, ways, state, MOST), kept)
        self.assertEqual((told(canal), ways), (told(mill()[0]), mill()[1]))

    def test_kinds(self):
        canal, ways = mill()
        state = begun(canal, ways)
        for answer, many in ((look(canal, ways, state, MOST), 3), (look(dry(), [UP], begun(dry(), [UP]), MOST), 2)):
            self.assertIs(type(answer), tuple)
            self.assertEqual(len(answer), many)
            self.assertTrue(all(type(part) is list for part in answer[1:]))
            self.assertTrue(all(type(layer) is list for layer in answer[-1]))


class Knots(Case):
    def test_a_knot(self):
        canal = dry()
        self.assertIs(is_knot(canal, [UP], begun(canal, [UP])), True)

    def test_a_state_in_which_a_deed_can_be_done_is_none(self):
        canal = dry("night a 1 0\n")
        state = begun(canal, [UP])
        self.assertIs(is_knot(canal, [UP], state), False)
        self.assertIs(is_knot(canal, [UP], after(canal, [UP], state, NIGHT)), True)
        full = (1, (10, 8, 10, 0, 0, 0), (0,))
        self.assertIs(is_knot(canal, [DOWN], full), False)
        self.assertIs(is_knot(canal, [(1, ((0, "down"), (0, "up")))], (1, (20, 8, 0, 0, 0, 0), (1,))), True)

    def test_a_homecoming_is_none(self):
        canal = dry()
        self.assertIs(is_knot(canal, [], begun(canal, [])), False)
        self.assertIs(is_knot(canal, [UP], (0, canal.start(), (1,))), False)
        self.assertIs(is_knot(canal, [UP, UP], (0, canal.start(), (1, 0))), True)

    def test_a_knot_as_the_first_state(self):
        canal = dry()
        state = begun(canal, [UP])
        self.assertEqual(look_for_knot(canal, [UP], state, 1), ("knot", [], [[state]]))

    def test_a_knot_behind_some_deeds(self):
        canal, ways = still_mill()
        state = begun(canal, ways)
        kind, row, layers = look_for_knot(canal, ways, state, MOST)
        self.assertEqual((kind, row), ("knot", [("pass", 1)]))
        self.assertEqual(len(layers), 2)
        canal, ways = mill()
        kind, row, layers = look_for_knot(canal, ways, begun(canal, ways), MOST)
        self.assertEqual((kind, sorted(row), len(layers)), ("knot", [NIGHT, ("pass", 1)], 3))
        self.assertIs(is_knot(canal, ways, walked(canal, ways, begun(canal, ways), row)), True)

    def test_no_boats_at_all(self):
        canal = dry()
        state = begun(canal, [])
        self.assertEqual(look_for_knot(canal, [], state, 1), ("free", [[state]]))

    def test_a_homecoming_does_not_end_it(self):
        canal = dry("night a 1 0\nnight b 1 0\n")
        state = begun(canal, [])
        one = after(canal, [], state, NIGHT)
        two = after(canal, [], one, NIGHT)
        self.assertEqual(look_for_knot(canal, [], state, 3), ("free", [[state], [one], [two]]))
        self.wide(look_for_knot, canal, [], state, 2)
        home = (1, one[1], (1,))
        self.assertEqual(look_for_knot(canal, [UP], home, 2), ("free", [[home], [(2, two[1], (1,))]]))

    def test_free_where_every_row_of_deeds_leads_home(self):
        canal = canal_of("reach a 0 90 1 40 sea\nreach b 0 90 1 40 a\nlock p b a 10\nnight a 1 1\n")
        ways = [UP, DOWN]
        state = begun(canal, ways)
        kind, layers = look_for_knot(canal, ways, state, MOST)
        self.assertEqual(kind, "free")
        self.assertEqual({state for layer in layers for state in layer}, set(edges_of(canal, ways, state, MOST)))

    def test_a_doomed_state_is_not_yet_a_knot(self):
        canal = dry("night a 1 0\n")
        state = begun(canal, [UP])
        self.assertEqual(look(canal, [UP], state, MOST)[0], "doomed")
        self.assertEqual(look_for_knot(canal, [UP], state, MOST)[:2], ("knot", [NIGHT]))

    def test_a_bound_of_just_as_many_states_one_less_and_one(self):
        plenty = canal_of("reach a 0 90 1 40 sea\nreach b 0 90 1 40 a\nlock p b a 10\nnight a 1 1\n")
        for canal, ways in (still_mill(), mill(), (plenty, [UP, DOWN])):
            self.bounds(look_for_knot, canal, ways, begun(canal, ways))

    def test_kinds_and_what_is_told_is_the_askers_own(self):
        canal, ways = mill()
        state = begun(canal, ways)
        kept = look_for_knot(canal, ways, state, MOST)
        answer = look_for_knot(canal, ways, state, MOST)
        self.assertTrue(type(answer) is tuple and all(type(part) is list for part in answer[1:]))
        answer[1].append(NIGHT)
        answer[2][0].clear()
        self.assertEqual(look_for_knot(canal, ways, state, MOST), kept)
        self.assertEqual((told(canal), ways), (told(mill()[0]), mill()[1]))


class LeadsHome(unittest.TestCase):
    def leads(self, row, state=None):
        canal, ways = mill()
        handed = list(row)
        answer = leads_home(canal, ways, state or begun(canal, ways), handed)
        self.assertEqual((handed, told(canal), ways), (row, told(mill()[0]), mill()[1]))
        return answer

    def test_a_row_of_no_deeds(self):
        self.assertIs(self.leads([]), False)
        self.assertIs(self.leads([], (0, mill()[0].start(), (1, 1))), True)
        canal = dry()
        self.assertIs(leads_home(canal, [], begun(canal, []), []), True)
        self.assertIs(leads_home(canal, [UP], begun(canal, [UP]), []), False)

    def test_rows_that_lead_home(self):
        self.assertIs(self.leads([("pass", 0), ("pass", 1)]), True)
        self.assertIs(self.leads([("pass", 0), NIGHT, ("pass", 1)]), True)
        self.assertIs(self.leads([("pass", 0), ("pass", 1), NIGHT]), True)

    def test_a_deed_that_cannot_be_done(self):
        self.assertIs(self.leads([("pass", 1), ("pass", 0)]), False)
        self.assertIs(self.leads([("let", 0), ("pass", 0), ("pass", 1)]), False)
        self.assertIs(self.leads([("pass", 0), ("pass", 0), ("pass", 1)]), False)
        self.assertIs(self.leads([NIGHT, NIGHT, ("pass", 0), ("pass", 1)]), False)
        # All boats are home ahead of the last deed, which cannot be done.
        self.assertIs(self.leads([("pass", 0), ("pass", 1), ("pass", 1)]), False)

    def test_a_row_that_ends_ahead_of_the_homecoming(self):
        self.assertIs(self.leads([("pass", 0)]), False)
        self.assertIs(self.leads([("pass", 0), NIGHT]), False)
        self.assertIs(self.leads([("pass", 0), ("let", 0)]), False)

    def test_a_boat_or_a_lock_that_is_not_there(self):
        self.assertIs(self.leads([("pass", 2)]), False)
        self.assertIs(self.leads([("let", 1), ("pass", 0), ("pass", 1)]), False)


class Papers(unittest.TestCase):
    def setUp(self):
        self.canal, self.ways = mill()
        # Behind the pass down four states are come to: the two of the let and the night, in either order.
        self.canal.nights.append([(0, 0), (0, 1)])
        self.first = begun(self.canal, self.ways)
        self.doomed = after(self.canal, self.ways, self.first, ("pass", 1))

    def doom(self, layers, state=None):
        return shows_doom(self.canal, self.ways, state or self.doomed, layers)

    def test_doom(self):
        self.assertIs(self.doom(look(self.canal, self.ways, self.doomed, MOST)[1]), True)

    def test_layers_that_hold_a_homecoming_show_no_doom(self):
        kind, plan, layers = look(self.canal, self.ways, self.first, MOST)
        self.assertIs(self.doom(layers, self.first), False)
        state = walked(self.canal, self.ways, self.first, [("pass", 0), ("pass", 1), NIGHT, NIGHT])
        self.assertEqual(look(self.canal, self.ways, state, MOST), ("home", [], [[state]]))
        self.assertIs(self.doom([[state]], state), False)

    def test_layers_cut_off_ahead_of_the_homecoming_show_no_doom(self):
        layers = look(self.canal, self.ways, self.first, MOST)[2]
        for many in range(len(layers)):
            self.assertIs(self.doom(layers[:many], self.first), False)

    def test_spoilt_layers(self):
        canal = canal_of("reach a 0 90 2 40 sea\nreach b 35 90 1 40 a\nlock p b a 10\nnight a 1 0\nnight b 1 0\n")
        # Full, so that it can be let out ahead of each night or behind it; the boat up is doomed all the same.
        state = (0, (40, 40, 10, 0, 0, 0), (0,))
        ways = [UP]
        layers = look(canal, ways, state, MOST)[1]
        self.assertEqual([len(layer) for layer in layers], [1, 2, 2, 1])
        self.assertIs(shows_doom(canal, ways, state, layers), True)
        self.assertIs(shows_doom(canal, ways, state, [list(reversed(layer)) for layer in layers]), True)
        for spoilt in self.spoilt(layers):
            self.assertIs(shows_doom(canal, ways, state, spoilt), False, spoilt)
        other = (0, (41, 40, 10, 0, 0, 0), (0,))
        self.assertIs(shows_doom(canal, ways, other, layers), False)
        self.assertIs(shows_doom(canal, ways, layers[1][0], layers), False)
        self.assertIs(shows_doom(canal, ways, state, look(canal, ways, other, MOST)[1]), False)

    def test_spoilt_layers_that_are_to_show_that_no_knot_is_come_to(self):
        canal = canal_of("reach a 0 90 1 40 sea\nreach b 0 90 1 40 a\nlock p b a 10\nnight a 1 0\n")
        state = begun(canal, [UP])
        layers = look_for_knot(canal, [UP], state, MOST)[1]
        self.assertIs(shows_free(canal, [UP], state, layers), True)
        self.assertIs(shows_free(canal, [UP], state, [list(reversed(layer)) for layer in layers]), True)
        for spoilt in self.spoilt(layers):
            self.assertIs(shows_free(canal, [UP], state, spoilt), False, spoilt)
        self.assertIs(shows_free(canal, [UP], layers[1][0], layers), False)
        self.assertIs(shows_free(canal, [UP], layers[1][0], layers[1:]), False)
        # The layers are right, but a homecoming stands in them.
        self.assertIs(shows_doom(canal, [UP], state, layers), False)

    def spoilt(self, layers):
        """Layers with something left out, told twice, put elsewhere or in their place."""
        yield []
        yield [[]]
        yield layers + [[]]
        yield layers + [[layers[0][0]]]
        yield layers[1:]
        yield layers[:-1]
        yield layers[:1]
        yield list(reversed(layers))
        yield [[state for layer in layers for state in layer]]
        for at, layer in enumerate(layers):
            for state in layer:
                yield layers[:at] + [[other for other in layer if other != state]] + layers[at + 1:]
                yield layers[:at] + [layer + [state]] + layers[at + 1:]
                yield layers[:-1] + [layers[-1] + [state]]
                wetter = (state[0], (state[1][0] + 1,) + state[1][1:], state[2])
                yield layers[:at] + [layer + [wetter]] + layers[at + 1:]
                yield layers[:at] + [[wetter if other == state else other for other in layer]] + layers[at + 1:]

    def test_layers_with_a_knot_are_not_free(self):
        canal, ways = still_mill()
        state = begun(canal, ways)
        every = list(edges_of(canal, ways, state, MOST))
        far = distances(state, edges_of(canal, ways, state, MOST))
        layers = [[other for other in every if far[other] == at] for at in range(max(far.values()) + 1)]
        self.assertIs(shows_free(canal, ways, state, layers), False)
        self.assertIs(shows_free(canal, ways, state, look_for_knot(canal, ways, state, MOST)[2]), False)
        knot = begun(dry(), [UP])
        self.assertIs(shows_free(dry(), [UP], knot, [[knot]]), False)
        self.assertIs(shows_doom(dry(), [UP], knot, [[knot]]), True)

    def test_no_boats_at_all(self):
        canal = dry()
        state = begun(canal, [])
        self.assertIs(shows_free(canal, [], state, [[state]]), True)
        self.assertIs(shows_doom(canal, [], state, [[state]]), False)

    def test_what_is_handed_in_stays_as_it_was(self):
        layers = look(self.canal, self.ways, self.doomed, MOST)[1]
        kept = [list(layer) for layer in layers]
        self.doom(layers)
        shows_free(self.canal, self.ways, self.doomed, layers)
        self.assertEqual((layers, self.ways), (kept, mill()[1]))


class Every(Case):
    def test_looks_of_many_canals(self):
        seen = {"home": 0, "doomed": 0}
        for canal, ways, first, edges in small_worlds(250, 61):
            away, many = nearest(first, edges, lambda state: all_home(ways, state))
            answer = look(canal, ways, first, many)
            seen[answer[0]] += 1
            self.assertEqual(answer[0], "doomed" if away is None else "home")
            self.assertEqual(sum(len(layer) for layer in answer[-1]), many)
            if many > 1:
                self.wide(look, canal, ways, first, many - 1)
            ahead, ended = ahead_on(canal, ways)
            self.assertIs(shows_doom(canal, ways, first, answer[-1]), away is None)
            if away is None:
                self.assertTrue(shows_closed(first, ahead, ended, answer[1]))
            else:
                self.assertEqual(len(answer[1]), away)
                self.assertLessEqual(away, rank(canal, ways, first))
                self.assertTrue(shows_found(first, ahead, ended, answer[1], answer[2]))
                self.assertIs(leads_home(canal, ways, first, answer[1]), True)
                self.assertTrue(all_home(ways, walked(canal, ways, first, answer[1])))
        self.assertGreater(min(seen.values()), 40)

    def test_looks_for_knots_of_many_canals(self):
        seen = {"knot": 0, "free": 0}
        for canal, ways, first, edges in small_worlds(250, 62):
            def knot(state):
                return not all_home(ways, state) and not edges[state]

            self.assertTrue(all(is_knot(canal, ways, state) is knot(state) for state in edges))
            away, many = nearest(first, edges, knot)
            answer = look_for_knot(canal, ways, first, many)
            seen[answer[0]] += 1
            self.assertEqual(answer[0], "free" if away is None else "knot")
            self.assertEqual(sum(len(layer) for layer in answer[-1]), many)
            self.assertIs(shows_free(canal, ways, first, answer[-1]), away is None)
            if many > 1:
                self.wide(look_for_knot, canal, ways, first, many - 1)
            if away is not None:
                self.assertEqual(len(answer[1]), away)
                self.assertTrue(knot(walked(canal, ways, first, answer[1])))
        self.assertGreater(min(seen.values()), 40)

    def test_a_row_leads_home_from_every_state_that_is_as_wet(self):
        source = random.Random(67)
        seen = 0
        for canal, ways, first, edges in small_worlds(250, 63):
            answer = look(canal, ways, first, MOST)
            if answer[0] == "home" and answer[1]:
                seen += 1
                for more in (0, 1, 3, 50):
                    reaches = tuple(held + source.randrange(more + 1) for held in first[1][:len(canal.reaches)])
                    wetter = (first[0], reaches + first[1][len(reaches):], first[2])
                    self.assertTrue(as_wet(canal, wetter, first))
                    self.assertIs(leads_home(canal, ways, wetter, answer[1]), True)
        self.assertGreater(seen, 20)

    def test_it_need_not_lead_home_from_a_drier_one(self):
        canal, ways = mill()
        state = begun(canal, ways)
        drier = (0, (10, 13, 0, 0, 0, 0), (0, 0))
        self.assertFalse(as_wet(canal, drier, state))
        self.assertIs(leads_home(canal, ways, drier, [("pass", 0), ("pass", 1)]), False)


if __name__ == "__main__":
    unittest.main()
