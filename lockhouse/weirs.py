"""Weirs, over which a reach gives away what stands above its crest."""

from lockhouse.vessels import poured, poured_all


def over(weirs, waters, at):
    crest = weirs[at][0]
    return max(0, waters[at] - crest)


def spilled(weirs, waters, at, most=None):
    amount = over(weirs, waters, at)
    if most is not None:
        amount = min(amount, most)
    # None as what it keeps: the crest bounds what is given, and a crest may stand below nought.
    return poured(waters, at, weirs[at][1], amount, None)


def still(weirs, waters):
    return all([over(weirs, waters, at) == 0 for at in range(len(weirs))])


def settled(weirs, waters):
    return poured_all(waters, spill_pours(weirs, waters))


def spill_pours(weirs, waters):
    given = spills(weirs, waters)
    return [(at, weirs[at][1], given[at]) for at in last_first(weirs) if given[at] != 0]


def with_spills(weirs, waters, pours):
    return pours + spill_pours(weirs, poured_all(waters, pours))


def spills(weirs, waters):
    # A weir leads to a reach told ahead or to no reach at all. So, the last reach first,
    # all that a reach will ever get has come before its turn, and one turn each is enough.
    held = list(waters)
    given = [0] * len(weirs)
    for at in last_first(weirs):
        given[at] = over(weirs, held, at)
        held[weirs[at][1]] += given[at]
    return given


def last_first(weirs):
    return list(range(len(weirs) - 1, -1, -1))
