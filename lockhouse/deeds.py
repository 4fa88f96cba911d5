"""The deeds: when each can be done, what it pours, and the state behind it."""

from lockhouse.boats import HOME, has_no_berth, next_step, reach_of
from lockhouse.errors import NotNow
from lockhouse.nights import night_pours
from lockhouse.passing import letting, passage
from lockhouse.vessels import poured_all
from lockhouse.weirs import with_spills


def why_not(canal, ways, state, deed):
    if deed[0] == "pass":
        return why_no_pass(canal, ways, state, deed[1])
    if deed[0] == "let":
        return "" if canal.full(state[1], deed[1]) else "empty"
    return "" if state[0] < len(canal.nights) else "over"


def why_no_pass(canal, ways, state, boat):
    place = state[2][boat]
    if reach_of(canal, ways[boat], place) == HOME:
        return "home"
    target = reach_of(canal, ways[boat], place + 1)
    if target != HOME and has_no_berth(canal, ways, state, target):
        return "berth"
    if falls_short(canal, state[1], pass_pours(canal, ways, state, boat)):
        return "water"
    return ""


def falls_short(canal, waters, moved):
    # Asked pour by pour: a let ahead of the fill may bring the low reach what a pump takes from it.
    held = waters
    for pour in moved:
        held = poured_all(held, [pour])
        if is_below_least(canal, held, pour[0]):
            return True
    return False


def is_below_least(canal, waters, vessel):
    return vessel < len(canal.reaches) and waters[vessel] < canal.reaches[vessel].least


def pass_pours(canal, ways, state, boat):
    step = next_step(ways[boat], state[2][boat])
    k = step[0]
    basin = state[1][canal.basin(k)]
    return by_number(canal, k, passage(canal.locks[k], canal.full(state[1], k), basin, step[1]))


def let_pours(canal, state, k):
    return by_number(canal, k, letting(canal.locks[k], state[1][canal.basin(k)]))


def by_number(canal, k, named):
    lock = canal.locks[k]
    vessel = {"high": lock.high, "low": lock.low, "chamber": canal.chamber(k), "basin": canal.basin(k)}
    return [(vessel[source], vessel[target], amount) for source, target, amount in named]


def pours(canal, ways, state, deed):
    word = why_not(canal, ways, state, deed)
    if word != "":
        raise NotNow(word)
    if deed[0] == "night":
        return night_pours(canal, state, canal.nights[state[0]])
    passes = deed[0] == "pass"
    moved = pass_pours(canal, ways, state, deed[1]) if passes else let_pours(canal, state, deed[1])
    return with_spills(canal.weirs(), state[1], moved)


def after(canal, ways, state, deed):
    return counted_on(state, deed, poured_all(state[1], pours(canal, ways, state, deed)))


def counted_on(state, deed, waters):
    if deed[0] == "night":
        return (state[0] + 1, waters, state[2])
    if deed[0] == "pass":
        return (state[0], waters, one_step_on(state[2], deed[1]))
    return (state[0], waters, state[2])


def one_step_on(places, boat):
    return tuple([place + 1 if at == boat else place for at, place in enumerate(places)])


def may(canal, ways, state):
    passes = [("pass", boat) for boat in range(len(ways))]
    lets = [("let", k) for k in range(len(canal.locks))]
    return [deed for deed in passes + lets + [("night",)] if why_not(canal, ways, state, deed) == ""]
