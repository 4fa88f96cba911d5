"""The search: layer by layer, all states to which deeds lead, until an ended one is found or no state is new."""

from lockhouse.errors import TooWide


def layered(first, ahead, ended, most):
    # For each state that stands in a layer the pair of the state ahead of it and the deed from there.
    came = {first: None}
    layers = [[first]]
    # The bound is asked ahead of the end: a layer that goes beyond it is refused though it has an ended state.
    while len(came) <= most:
        ended_ones = [state for state in layers[-1] if ended(state)]
        if ended_ones:
            return ("found", row_to(came, ended_ones[0]), layers)
        layer = next_layer(layers[-1], ahead, came)
        if not layer:
            return ("closed", layers)
        layers.append(layer)
    raise TooWide("more states than the bound")


def next_layer(layer, ahead, came):
    fresh = []
    for state in layer:
        for deed, behind in ahead(state):
            if behind not in came:
                came[behind] = (state, deed)
                fresh.append(behind)
    return fresh


def row_to(came, state):
    row = []
    step = came[state]
    while step is not None:
        row.append(step[1])
        step = came[step[0]]
    return list(reversed(row))
