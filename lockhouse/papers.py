"""Papers looked through: whether rows and layers show what they are told to show.

Nothing of the search is used here, so that a fault of the search does not hide itself.
"""


def row_holds(first, ahead, ended, row):
    state = first
    for deed in row:
        behind = [come_to for told, come_to in ahead(state) if told == deed]
        if not behind:
            return False
        state = behind[0]
    return ended(state)


def layers_hold(first, ahead, layers):
    if not layers or layers[0] != [first]:
        return False
    placed = {first: True}
    # From layer to layer: so only states that are truly come to are handed to `ahead`.
    for k in range(1, len(layers)):
        fresh = [state for state in come_to_from(layers[k - 1], ahead) if state not in placed]
        if not is_layer_of(layers[k], fresh):
            return False
        for state in fresh:
            placed[state] = True
    return True


def come_to_from(layer, ahead):
    behind = {}
    for state in layer:
        for deed, come_to in ahead(state):
            behind[come_to] = True
    return list(behind)


def is_layer_of(layer, fresh):
    # Each of `fresh` is there once; of equal length and with the same states, so is each of the layer.
    return layer != [] and len(layer) == len(fresh) and set(layer) == set(fresh)


def shows_closed(first, ahead, ended, layers):
    if not layers_hold(first, ahead, layers):
        return False
    placed = dict([(state, True) for state in states_of(layers)])
    leads_out = [state for state in come_to_from(layers[-1], ahead) if state not in placed]
    return leads_out == [] and none_ended(layers, ended)


def shows_found(first, ahead, ended, row, layers):
    if not layers_hold(first, ahead, layers) or not row_holds(first, ahead, ended, row):
        return False
    return len(row) == len(layers) - 1 and none_ended(layers[:-1], ended)


def none_ended(layers, ended):
    return not any([ended(state) for state in states_of(layers)])


def states_of(layers):
    states = []
    for layer in layers:
        states.extend(layer)
    return states
