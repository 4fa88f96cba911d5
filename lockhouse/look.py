"""A look ahead on a canal: whether a homecoming or a knot is come to, and whether papers show that none is."""

from lockhouse.boats import all_home
from lockhouse.deeds import after, may
from lockhouse.papers import row_holds, shows_closed
from lockhouse.search import layered


def look(canal, ways, state, most):
    answer = layered(state, ahead_on(canal, ways), homecoming(ways), most)
    if answer[0] == "closed":
        return ("doomed", answer[1])
    return ("home", answer[1], answer[2])


def is_knot(canal, ways, state):
    return not all_home(ways, state) and may(canal, ways, state) == []


# A homecoming does not end this look: it asks for every state that is ever come to.
def look_for_knot(canal, ways, state, most):
    answer = layered(state, ahead_on(canal, ways), knot(canal, ways), most)
    if answer[0] == "closed":
        return ("free", answer[1])
    return ("knot", answer[1], answer[2])


def leads_home(canal, ways, state, row):
    return row_holds(state, ahead_on(canal, ways), homecoming(ways), row)


def shows_doom(canal, ways, state, layers):
    return shows_closed(state, ahead_on(canal, ways), homecoming(ways), layers)


def shows_free(canal, ways, state, layers):
    return shows_closed(state, ahead_on(canal, ways), knot(canal, ways), layers)


def ahead_on(canal, ways):
    return lambda state: [(deed, after(canal, ways, state, deed)) for deed in may(canal, ways, state)]


def homecoming(ways):
    return lambda state: all_home(ways, state)


def knot(canal, ways):
    return lambda state: is_knot(canal, ways, state)
