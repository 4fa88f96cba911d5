"""6.5 (and 0.3): papers looked through: rows, layers, and what they show together."""

import copy
import itertools
import unittest

from lockhouse.boats import begun
from lockhouse.deeds import after
from lockhouse.papers import layers_hold, row_holds, shows_closed, shows_found
from lockhouse.search import layered
from tests.helpers import ahead_of, ahead_on, ended_at, mill, some_graphs

# From 1 to 2 and 3, from both to 4, from there to 5 and back to 1.
DIAMOND = {1: [("l", 2), ("r", 3)], 2: [("d", 4)], 3: [("d", 4)], 4: [("on", 5), ("back", 1)]}
LAYERS = [[1], [2, 3], [4], [5]]


def row(told, ended=(5,), first=1, edges=DIAMOND):
    return row_holds(first, ahead_of(edges), ended_at(*ended), told)


def hold(layers, first=1, edges=DIAMOND):
    return layers_hold(first, ahead_of(edges), layers)


def closed(layers, ended=(), first=1, edges=DIAMOND):
    return shows_closed(first, ahead_of(edges), ended_at(*ended), layers)


def found(told, layers, ended=(5,), first=1, edges=DIAMOND):
    return shows_found(first, ahead_of(edges), ended_at(*ended), told, layers)


def holds_by_the_words(first, edges, layers):
    """Whether layers hold, each condition of 6.5 by itself."""
    every = [state for layer in layers for state in layer]

    def behind(layer):
        return [state for ahead in layer for _, state in edges.get(ahead, [])]

    return (
        len(layers) >= 1 and layers[0] == [first] and all(layers) and len(every) == len(set(every))
        and all(state in behind(layers[at - 1]) for at in range(1, len(layers)) for state in layers[at])
        and all(any(state in layer for layer in layers[:at + 2])
                for at in range(len(layers) - 1) for state in behind(layers[at]))
    )


def closed_by_the_words(first, edges, ended, layers):
    every = [state for layer in layers for state in layer]
    return (
        holds_by_the_words(first, edges, layers)
        and all(state in every for last in layers[-1] for _, state in edges.get(last, []))
        and not any(state in ended for state in every)
    )


def row_by_the_words(first, edges, ended, told):
    state = first
    for deed in told:
        if deed not in dict(edges.get(state, [])):
            return False
        state = dict(edges[state])[deed]
    return state in ended


def found_by_the_words(first, edges, ended, told, layers):
    return (
        holds_by_the_words(first, edges, layers) and row_by_the_words(first, edges, ended, told)
        and len(told) == len(layers) - 1 and not any(state in ended for layer in layers[:-1] for state in layer)
    )


class Rows(unittest.TestCase):
    def test_rows_that_lead_to_an_ended_state(self):
        self.assertIs(row(["l", "d", "on"]), True)
        self.assertIs(row(["r", "d", "on"]), True)
        self.assertIs(row(["l"], (2,)), True)

    def test_a_longer_row_than_there_need_be(self):
        self.assertIs(row(["l", "d", "back", "r", "d", "on"]), True)

    def test_past_an_ended_state_to_another_one(self):
        self.assertIs(row(["l", "d", "on"], (1, 4, 5)), True)
        self.assertIs(row(["l", "d", "on"], (1, 4)), False)

    def test_an_empty_row(self):
        self.assertIs(row([], (1,)), True)
        self.assertIs(row([], (5,)), False)
        self.assertIs(row([], (), edges={}), False)

    def test_a_row_that_ends_elsewhere(self):
        self.assertIs(row(["l", "d"]), False)
        self.assertIs(row(["l", "d", "back"]), False)
        self.assertIs(row(["l", "d", "on"], ()), False)
        self.assertIs(row(["l"], (3,)), False)

    def test_a_deed_that_is_not_one_of_the_states(self):
        self.assertIs(row(["d", "on"]), False)
        self.assertIs(row(["l", "r", "d", "on"]), False)
        self.assertIs(row(["l", "d", "on", "on"]), False)
        self.assertIs(row(["x"], (1, 2, 3, 4, 5)), False)
        self.assertIs(row([0], (1,)), False)
        self.assertIs(row(["l", "d", "l"], (1, 2, 3, 4, 5)), False)

    def test_one_deed_too_many_and_one_too_few(self):
        self.assertIs(row(["l", "d", "on", "back"]), False)
        self.assertIs(row(["l", "d"]), False)
        self.assertIs(row(["d", "on"]), False)

    def test_a_deed_to_itself(self):
        edges = {1: [("x", 1), ("y", 2)]}
        self.assertIs(row(["x", "x", "y"], (2,), edges=edges), True)
        self.assertIs(row(["x", "x"], (1,), edges=edges), True)
        self.assertIs(row(["y", "x"], (2,), edges=edges), False)

    def test_numbers_texts_and_tuples(self):
        edges = {0: [((1, "x"), "0")], "0": [("", (0,))], (0,): [(0, ("0", (0,)))]}
        self.assertIs(row([(1, "x"), "", 0], (("0", (0,)),), 0, edges), True)
        self.assertIs(row([(1, "x"), "", "0"], (("0", (0,)),), 0, edges), False)
        self.assertIs(row([("x", 1), "", 0], (("0", (0,)),), 0, edges), False)


class Layers(unittest.TestCase):
    def test_the_layers_of_the_search(self):
        self.assertIs(hold([[1], [2, 3], [4], [5]]), True)
        self.assertIs(hold([[1], [3, 2], [4], [5]]), True)

    def test_one_state(self):
        self.assertIs(hold([[1]], edges={}), True)
        self.assertIs(hold([[1]], edges={1: [("x", 1)]}), True)
        self.assertIs(hold([[1]]), True)

    def test_layers_cut_off_behind_any_layer(self):
        for many in range(1, 5):
            self.assertIs(hold(LAYERS[:many]), True)

    def test_no_layers(self):
        self.assertIs(hold([]), False)
        self.assertIs(hold([], edges={}), False)

    def test_an_empty_layer(self):
        self.assertIs(hold([[]]), False)
        self.assertIs(hold([[1], []], edges={}), False)
        self.assertIs(hold([[], [1]], edges={}), False)
        for at in range(5):
            self.assertIs(hold(LAYERS[:at] + [[]] + LAYERS[at:]), False)

    def test_another_first_state(self):
        self.assertIs(hold([[2], [4]]), False)
        self.assertIs(hold([[1], [2, 3], [4], [5]], first=2), False)
        self.assertIs(hold([[2], [3], [4], [5]]), False)
        self.assertIs(hold([[9]], edges={}), False)

    def test_more_than_the_first_state_in_the_first_layer(self):
        self.assertIs(hold([[1, 2], [3], [4], [5]]), False)
        self.assertIs(hold([[1, 2, 3], [4], [5]]), False)
        self.assertIs(hold([[1, 1]], edges={}), False)

    def test_a_layer_left_out(self):
        for at in range(3):
            self.assertIs(hold(LAYERS[:at] + LAYERS[at + 1:]), False)

    def test_a_state_twice_within_a_layer(self):
        self.assertIs(hold([[1], [2, 3, 2], [4], [5]]), False)
        self.assertIs(hold([[1], [2, 2], [4], [5]]), False)
        self.assertIs(hold([[1], [2, 3], [4, 4]]), False)
        self.assertIs(hold([[1], [2, 3], [4], [5, 5]]), False)

    def test_a_state_in_two_layers(self):
        self.assertIs(hold([[1], [2, 3], [4], [5, 1]]), False)
        self.assertIs(hold([[1], [2, 3], [4], [5], [1]]), False)
        self.assertIs(hold([[1], [2, 3], [4, 2], [5]]), False)
        self.assertIs(hold([[1], [2, 3], [4], [5, 4]]), False)
        self.assertIs(hold([[1], [1]], edges={1: [("x", 1)]}), False)

    def test_a_state_moved_a_layer_on_or_back(self):
        self.assertIs(hold([[1], [2], [3, 4], [5]]), False)
        self.assertIs(hold([[1], [2, 3, 4], [5]]), False)
        self.assertIs(hold([[1], [2, 3], [4, 5]]), False)
        self.assertIs(hold([[1], [2, 3], [5], [4]]), False)
        edges = {1: [("x", 2), ("y", 3)], 2: [("x", 3)]}
        self.assertIs(hold([[1], [2, 3]], edges=edges), True)
        self.assertIs(hold([[1], [2], [3]], edges=edges), False)

    def test_a_state_that_is_left_out(self):
        self.assertIs(hold([[1], [2], [4], [5]]), False)
        self.assertIs(hold([[1], [3], [4], [5]]), False)
        self.assertIs(hold([[1], [2]]), False)

    def test_a_state_to_which_no_deed_leads(self):
        self.assertIs(hold([[1], [2, 3, 9], [4], [5]]), False)
        self.assertIs(hold([[1], [2, 3], [4], [5, 9]]), False)
        self.assertIs(hold([[1], [2, 3], [4], [5], [6]]), False)

    def test_two_layers_joined(self):
        self.assertIs(hold([[1, 2, 3], [4], [5]]), False)
        self.assertIs(hold([[1], [2, 3, 4], [5]]), False)
        self.assertIs(hold([[1], [2, 3], [4, 5]]), False)

    def test_a_layer_parted_in_two(self):
        self.assertIs(hold([[1], [2], [3], [4], [5]]), False)

    def test_only_states_that_are_come_to_are_handed_on(self):
        asked = []

        def ahead(state):
            asked.append(state)
            return DIAMOND[state] if state in DIAMOND else []

        for layers in ([[1], ["forged"], [4]], [[1], [2, 3, "forged"], [4]], [["forged"], [2]]):
            self.assertIs(layers_hold(1, ahead, layers), False)
            self.assertIs(shows_closed(1, ahead, ahead, layers), False)
            self.assertIs(shows_found(1, ahead, ahead, [], layers), False)
        self.assertNotIn("forged", asked)


class ShowsClosed(unittest.TestCase):
    def test_all_states_and_none_ended(self):
        self.assertIs(closed(LAYERS), True)
        self.assertIs(closed(LAYERS, (6, 9)), True)
        self.assertIs(closed([[1]], edges={}), True)
        self.assertIs(closed([[1]], edges={1: [("x", 1)]}), True)
        self.assertIs(closed([[1], [2]], edges={1: [("x", 2)], 2: [("x", 1), ("y", 2)]}), True)

    def test_an_ended_state_in_any_layer(self):
        for state in range(1, 6):
            self.assertIs(closed(LAYERS, (state,)), False)
        self.assertIs(closed([[1]], (1,), edges={}), False)

    def test_layers_cut_off(self):
        for many in range(1, 4):
            self.assertIs(closed(LAYERS[:many]), False)

    def test_the_last_layer_leads_back_into_some_layer(self):
        edges = {1: [("x", 2)], 2: [("x", 3)], 3: [("x", 1), ("y", 2), ("z", 3)]}
        self.assertIs(closed([[1], [2], [3]], edges=edges), True)
        edges[3].append(("out", 4))
        self.assertIs(closed([[1], [2], [3]], edges=edges), False)
        self.assertIs(closed([[1], [2], [3], [4]], edges=edges), True)

    def test_layers_that_do_not_hold(self):
        wrong = (
            [], [[]], LAYERS + [[]], [[2], [4], [5], [1], [3]], [[1], [2], [4], [5]], [[1, 2, 3, 4, 5]],
            [[1], [2, 3, 2], [4], [5]], [[1], [2, 3], [4], [5, 1]], [[1], [2, 3, 4], [5]], [[1], [2, 3], [4], [5, 9]],
        )
        for layers in wrong:
            with self.subTest(layers=layers):
                self.assertIs(closed(layers), False)


class ShowsFound(unittest.TestCase):
    ROW = ["l", "d", "on"]

    def test_a_row_and_layers(self):
        self.assertIs(found(self.ROW, LAYERS), True)
        self.assertIs(found(["r", "d", "on"], LAYERS), True)
        self.assertIs(found(["r"], LAYERS[:2], (3,)), True)
        self.assertIs(found(["l"], LAYERS[:2], (2, 3, 4, 5)), True)

    def test_a_first_state_that_is_ended(self):
        self.assertIs(found([], [[1]], (1,)), True)
        self.assertIs(found([], [[1]], (1,), edges={}), True)
        self.assertIs(found([], [[1]], (2,)), False)
        self.assertIs(found([], [], (1,)), False)

    def test_an_ended_state_in_a_layer_that_is_not_the_last(self):
        for state in (1, 2, 3, 4):
            self.assertIs(found(self.ROW, LAYERS, (5, state)), False)
        self.assertIs(found(["l"], LAYERS[:2], (1, 2)), False)

    def test_the_row_does_not_hold(self):
        self.assertIs(found(["l", "d", "off"], LAYERS), False)
        self.assertIs(found(["l", "d", "back"], LAYERS), False)
        self.assertIs(found(["l"], LAYERS[:2], (3,)), False)
        self.assertIs(found(self.ROW, LAYERS, ()), False)

    def test_one_deed_too_many_and_one_too_few(self):
        edges = dict(DIAMOND)
        edges[5] = [("stay", 5)]
        self.assertIs(found(self.ROW + ["stay"], LAYERS, edges=edges), False)
        self.assertIs(found(self.ROW, LAYERS, edges=edges), True)
        self.assertIs(found(["l", "d"], LAYERS, edges=edges), False)
        self.assertIs(found(["l", "d"], LAYERS, (4,)), False)
        self.assertIs(found(["l"], LAYERS, (2,)), False)
        self.assertIs(found(["l", "d", "back", "l", "d", "on"], LAYERS), False)

    def test_layers_cut_off_or_a_layer_too_many(self):
        self.assertIs(found(self.ROW, LAYERS[:3]), False)
        self.assertIs(found(["l", "d"], LAYERS[:3]), False)
        self.assertIs(found(["l", "d"], LAYERS, (4, 5)), False)

    def test_layers_that_do_not_hold(self):
        wrong = (
            [[1], [2], [4], [5]], [[1], [2, 3], [4], [5, 5]], [[1], [2, 3], [4], [5, 1]], [[1], [2, 3], [4], []],
            [[2], [1, 3], [4], [5]], [[1], [2, 3], [4], [9]], [[1], [3], [2, 4], [5]],
        )
        for layers in wrong:
            with self.subTest(layers=layers):
                self.assertIs(found(self.ROW, layers), False)


def changed(layers):
    """Layers with one change each: states left out, told twice, moved or put in, layers cut off, joined, swapped."""
    yield []
    for at, layer in enumerate(layers):
        yield layers[:at] + layers[at + 1:]
        yield layers[:at] + [[]] + layers[at:]
        yield layers[:at] + [layer + ["forged"]] + layers[at + 1:]
        yield layers[:at] + [list(reversed(layer))] + layers[at + 1:]
        if at + 1 < len(layers):
            yield layers[:at] + [layer + layers[at + 1]] + layers[at + 2:]
            yield layers[:at] + [layers[at + 1], layer] + layers[at + 2:]
        for k, state in enumerate(layer):
            rest = layers[:at] + [layer[:k] + layer[k + 1:]] + layers[at + 1:]
            yield rest
            yield layers[:at] + [layer[:k], layer[k:]] + layers[at + 1:]
            for other in range(len(layers)):
                yield rest[:other] + [rest[other] + [state]] + rest[other + 1:]
                yield layers[:other] + [layers[other] + [state]] + layers[other + 1:]


class Every(unittest.TestCase):
    def test_what_a_search_tells_shows_it(self):
        for first, edges, ended in some_graphs(300):
            answer = layered(first, ahead_of(edges), ended_at(*ended), 1000)
            self.assertIs(hold(answer[-1], first, edges), True)
            self.assertIs(closed(answer[-1], ended, first, edges), answer[0] == "closed")
            if answer[0] == "found":
                self.assertIs(row(answer[1], ended, first, edges), True)
                self.assertIs(found(answer[1], answer[2], ended, first, edges), True)

    def test_changed_layers_as_the_words_tell(self):
        for first, edges, ended in some_graphs(150, 7):
            for ends in (ended, ()):
                answer = layered(first, ahead_of(edges), ended_at(*ends), 1000)
                told = answer[1] if answer[0] == "found" else []
                for layers in changed(answer[-1]):
                    self.assertIs(hold(layers, first, edges), holds_by_the_words(first, edges, layers))
                    self.assertIs(closed(layers, ended, first, edges), closed_by_the_words(first, edges, ended, layers))
                    self.assertIs(
                        found(told, layers, ended, first, edges), found_by_the_words(first, edges, ended, told, layers),
                    )

    def test_every_row_of_up_to_four_deeds_as_the_words_tell(self):
        for ended in ((5,), (1,), (4, 2), ()):
            for many in range(5):
                for told in itertools.product(("l", "r", "d", "on", "back"), repeat=many):
                    self.assertIs(row(list(told), ended), row_by_the_words(1, DIAMOND, ended, told))
                    for cut in range(5):
                        self.assertIs(
                            found(list(told), LAYERS[:cut], ended),
                            found_by_the_words(1, DIAMOND, ended, told, LAYERS[:cut]),
                        )

    def test_what_is_handed_in_stays_as_it_was(self):
        edges = copy.deepcopy(DIAMOND)
        layers = [[1], [2, 3], [4], [5]]
        told = ["l", "d", "on"]
        row(told, edges=edges)
        hold(layers, edges=edges)
        closed(layers, edges=edges)
        found(told, layers, edges=edges)
        self.assertEqual((told, layers, edges), (["l", "d", "on"], LAYERS, DIAMOND))

    def test_on_a_canal(self):
        canal, ways = mill()
        ahead, ended = ahead_on(canal, ways)
        first = begun(canal, ways)
        kind, told, layers = layered(first, ahead, ended, 1000)
        self.assertIs(shows_found(first, ahead, ended, told, layers), True)
        self.assertIs(shows_found(first, ahead, ended, [("pass", 1), ("pass", 0)], layers), False)
        doomed = after(canal, ways, first, ("pass", 1))
        layers = layered(doomed, ahead, ended, 1000)[1]
        self.assertIs(shows_closed(doomed, ahead, ended, layers), True)
        self.assertIs(shows_closed(first, ahead, ended, layers), False)


if __name__ == "__main__":
    unittest.main()
