"""Nights: what the sun takes and the rain brings, and when weather is as wet as other weather."""

from lockhouse.vessels import poured_all
from lockhouse.weirs import with_spills


def night_pours(canal, state, weather):
    waters = state[1]
    sky = canal.sky()
    # The sun takes no more than is there: no vessel but the sky may stand below nought.
    sun = [(at, sky, min(pair[1], waters[at])) for at, pair in enumerate(weather)]
    rain = [(sky, at, pair[0]) for at, pair in enumerate(weather)]
    return with_spills(canal.weirs(), waters, [pour for pour in sun + rain if pour[2] != 0])


def after_night(canal, state, weather):
    waters = poured_all(state[1], night_pours(canal, state, weather))
    return (state[0] + 1, waters, state[2])


def wet_enough(weather, other):
    return all([pair[0] >= wanted[0] and pair[1] <= wanted[1] for pair, wanted in zip(weather, other)])
