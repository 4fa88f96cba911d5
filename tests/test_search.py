"""6.1 to 6.4 (and 0.3, 0.5): the search, its layers and rows, and its bound."""

import copy
import unittest

from lockhouse.boats import begun, rank
from lockhouse.deeds import after
from lockhouse.errors import TooWide
from lockhouse.search import layered
from tests.helpers import ahead_of, ahead_on, distances, ended_at, mill, some_graphs

# Two deeds from 1 lead to 4, by 2 or by 3; from 4 one leads on and one back to 1.
DIAMOND = {1: [("l", 2), ("r", 3)], 2: [("d", 4)], 3: [("d", 4)], 4: [("on", 5), ("back", 1)]}

MOST = 1000


def found(first, edges, ended, most=MOST):
    return layered(first, ahead_of(edges), ended_at(*ended), most)


def as_sets(layers):
    return [set(layer) for layer in layers]


class Closed(unittest.TestCase):
    def test_one_state_and_no_deed(self):
        self.assertEqual(found(1, {}, ()), ("closed", [[1]]))
        self.assertEqual(found(1, {}, (2,)), ("closed", [[1]]))

    def test_a_deed_to_itself(self):
        self.assertEqual(found(1, {1: [("x", 1)]}, ()), ("closed", [[1]]))
        self.assertEqual(found(1, {1: [("x", 1), ("y", 2)], 2: [("x", 2)]}, ()), ("closed", [[1], [2]]))

    def test_two_deeds_to_one_state(self):
        self.assertEqual(found(1, {1: [("x", 2), ("y", 2)]}, ()), ("closed", [[1], [2]]))

    def test_a_ring(self):
        self.assertEqual(found(1, {1: [("x", 2)], 2: [("x", 3)], 3: [("x", 1)]}, ()), ("closed", [[1], [2], [3]]))

    def test_a_state_stands_in_the_first_layer_to_which_a_deed_leads(self):
        edges = {1: [("x", 2), ("y", 3)], 2: [("x", 3), ("y", 4)], 3: [("x", 4)], 4: [("x", 2)]}
        kind, layers = found(1, edges, ())
        self.assertEqual(kind, "closed")
        self.assertEqual(as_sets(layers), [{1}, {2, 3}, {4}])
        self.assertEqual(sum(len(layer) for layer in layers), 4)

    def test_the_diamond(self):
        kind, layers = found(1, DIAMOND, ())
        self.assertEqual(kind, "closed")
        self.assertEqual(as_sets(layers), [{1}, {2, 3}, {4}, {5}])
        self.assertEqual([len(layer) for layer in layers], [1, 2, 1, 1])

    def test_an_ended_state_that_is_not_come_to(self):
        self.assertEqual(found(5, DIAMOND, (1, 2, 3, 4)), ("closed", [[5]]))


class Found(unittest.TestCase):
    def test_a_first_state_that_is_ended(self):
        self.assertEqual(found(1, {}, (1,)), ("found", [], [[1]]))
        self.assertEqual(found(1, DIAMOND, (1, 2, 3, 4, 5)), ("found", [], [[1]]))
        self.assertEqual(found(1, {1: [("x", 1)]}, (1,)), ("found", [], [[1]]))

    def test_one_deed(self):
        kind, row, layers = found(1, DIAMOND, (3,))
        self.assertEqual((kind, row), ("found", ["r"]))
        self.assertEqual(as_sets(layers), [{1}, {2, 3}])

    def test_several_deeds_and_no_layer_behind(self):
        kind, row, layers = found(1, DIAMOND, (4,))
        self.assertEqual(kind, "found")
        self.assertIn(row, (["l", "d"], ["r", "d"]))
        self.assertEqual(as_sets(layers), [{1}, {2, 3}, {4}])
        kind, row, layers = found(1, DIAMOND, (5,))
        self.assertIn(row, (["l", "d", "on"], ["r", "d", "on"]))
        self.assertEqual(as_sets(layers), [{1}, {2, 3}, {4}, {5}])

    def test_the_nearest_of_two_ended_states(self):
        edges = {1: [("x", 2), ("y", 9)], 2: [("x", 3)], 3: [("x", 4)]}
        self.assertEqual(found(1, edges, (4, 3))[1], ["x", "x"])
        self.assertEqual(found(1, edges, (4, 3, 9))[1], ["y"])

    def test_the_whole_layer_is_told_though_its_first_state_is_ended(self):
        for ended in ((2,), (3,), (2, 3)):
            kind, row, layers = found(1, DIAMOND, ended)
            self.assertEqual(as_sets(layers), [{1}, {2, 3}])
            self.assertIn(row, [[deed] for deed, state in DIAMOND[1] if state in ended])

    def test_the_last_layer_closed_too(self):
        self.assertEqual(found(1, {1: [("x", 2)], 2: [("y", 1)]}, (2,)), ("found", ["x"], [[1], [2]]))

    def test_a_long_way(self):
        edges = {at: [(("on", at), at + 1)] for at in range(999)}
        kind, row, layers = found(0, edges, (999,))
        self.assertEqual(row, [("on", at) for at in range(999)])
        self.assertEqual(layers, [[at] for at in range(1000)])

    def test_numbers_texts_and_tuples(self):
        edges = {0: [((1, "x"), "0")], "0": [("", (0,))], (0,): [(0, ("0", (0,)))]}
        self.assertEqual(
            found(0, edges, (("0", (0,)),)),
            ("found", [(1, "x"), "", 0], [[0], ["0"], [(0,)], [("0", (0,))]]),
        )
        self.assertEqual(found(0, edges, ())[1], [[0], ["0"], [(0,)], [("0", (0,))]])

    def test_states_and_deeds_without_any_sign_or_member(self):
        self.assertEqual(found("", {"": [("", ())], (): [(0, 0)]}, (0,)), ("found", ["", 0], [[""], [()], [0]]))


class Bound(unittest.TestCase):
    def wide(self, first, edges, ended, most):
        with self.assertRaises(TooWide) as caught:
            found(first, edges, ended, most)
        self.assertIs(type(caught.exception), TooWide)

    def test_just_as_many_states_one_less_and_one(self):
        for ended, many in (((), 5), ((5,), 5), ((4,), 4), ((2,), 3)):
            self.assertEqual(found(1, DIAMOND, ended, many), found(1, DIAMOND, ended))
            self.assertEqual(found(1, DIAMOND, ended, many + 1), found(1, DIAMOND, ended))
            for most in range(1, many):
                self.wide(1, DIAMOND, ended, most)

    def test_a_bound_of_one(self):
        self.assertEqual(found(1, {}, (), 1), ("closed", [[1]]))
        self.assertEqual(found(1, {1: [("x", 1)]}, (), 1), ("closed", [[1]]))
        self.assertEqual(found(1, DIAMOND, (1,), 1), ("found", [], [[1]]))
        self.wide(1, {1: [("x", 2)]}, (), 1)
        self.wide(1, {1: [("x", 2)]}, (2,), 1)

    def test_an_ended_state_in_the_layer_that_goes_beyond(self):
        edges = {1: [("x", 2), ("y", 3), ("z", 4)]}
        for ended in ((2,), (3,), (4,), (2, 3, 4)):
            self.wide(1, edges, ended, 3)
            self.wide(1, edges, ended, 2)
            self.assertEqual(found(1, edges, ended, 4)[0], "found")

    def test_states_that_stand_in_a_layer_already_do_not_count_again(self):
        edges = {1: [("x", 2), ("y", 2), ("z", 1)], 2: [("x", 1), ("y", 2)]}
        self.assertEqual(found(1, edges, (), 2), ("closed", [[1], [2]]))
        self.wide(1, edges, (), 1)

    def test_states_without_an_end(self):
        def ahead(state):
            return [("on", state + 1)]

        for most in (1, 2, 10, 1000):
            self.assertRaises(TooWide, layered, 0, ahead, ended_at(), most)
            self.assertRaises(TooWide, layered, 0, ahead, ended_at(most), most)
            self.assertEqual(layered(0, ahead, ended_at(most - 1), most)[0], "found")

    def test_a_refusal_changes_nothing(self):
        edges = copy.deepcopy(DIAMOND)
        self.wide(1, edges, (), 3)
        self.assertEqual(edges, DIAMOND)
        self.assertEqual(found(1, edges, ())[0], "closed")


class Every(unittest.TestCase):
    def test_layers_rows_and_bounds_of_many_graphs(self):
        seen = {"found": 0, "closed": 0}
        for first, edges, ended in some_graphs(600):
            far = distances(first, edges)
            ends = [far[state] for state in ended if state in far]
            last = min(ends) if ends else max(far.values())
            wanted = [{state for state in far if far[state] == at} for at in range(last + 1)]
            answer = found(first, edges, ended)
            seen[answer[0]] += 1
            layers = answer[-1]
            self.assertEqual(answer[0], "found" if ends else "closed")
            self.assertEqual(as_sets(layers), wanted)
            self.assertEqual([len(layer) for layer in layers], [len(layer) for layer in wanted])
            if ends:
                self.leads(first, edges, ended, answer[1], last)
            many = sum(len(layer) for layer in wanted)
            self.assertEqual(found(first, edges, ended, many), answer)
            if many > 1:
                self.assertRaises(TooWide, found, first, edges, ended, many - 1)
        self.assertGreater(min(seen.values()), 100)

    def leads(self, first, edges, ended, row, many):
        state = first
        for deed in row:
            state = dict(edges[state])[deed]
        self.assertIn(state, ended)
        self.assertEqual(len(row), many)

    def test_kinds(self):
        for first, edges, ended in some_graphs(60):
            answer = found(first, edges, ended)
            self.assertIs(type(answer), tuple)
            self.assertEqual(len(answer), 3 if answer[0] == "found" else 2)
            self.assertTrue(all(type(part) is list for part in answer[1:]))
            self.assertTrue(all(type(layer) is list for layer in answer[-1]))

    def test_the_lists_told_by_ahead_stay_as_they_were(self):
        for first, edges, ended in some_graphs(60):
            kept = copy.deepcopy(edges)
            answer = found(first, edges, ended)
            for layer in answer[-1]:
                layer.append("more")
            answer[-1].clear()
            answer[1].clear()
            self.assertEqual(edges, kept)

    def test_what_is_told_is_the_askers_own(self):
        kept = found(1, DIAMOND, (5,))
        told = found(1, DIAMOND, (5,))
        told[1].append("more")
        told[2][1].clear()
        told[2].append([9])
        self.assertEqual(found(1, DIAMOND, (5,)), kept)
        self.assertEqual([len(layer) for layer in kept[2]], [1, 2, 1, 1])

    def test_one_list_that_ahead_tells_anew_each_time(self):
        told = []

        def ahead(state):
            told.clear()
            told.extend(DIAMOND.get(state, []))
            return told

        self.assertEqual(layered(1, ahead, ended_at(5), MOST), found(1, DIAMOND, (5,)))


class OnACanal(unittest.TestCase):
    def test_boats_are_led_home(self):
        canal, ways = mill()
        ahead, ended = ahead_on(canal, ways)
        first = begun(canal, ways)
        self.assertEqual(layered(first, ahead, ended, 1000)[1], [("pass", 0), ("pass", 1)])
        # Behind the pass down there is no water for the way up.
        doomed = after(canal, ways, first, ("pass", 1))
        kind, layers = layered(doomed, ahead, ended, 1000)
        self.assertEqual(kind, "closed")
        self.assertLessEqual(len(layers) - 1, rank(canal, ways, doomed))


if __name__ == "__main__":
    unittest.main()
