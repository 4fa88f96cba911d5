"""What the tests of several modules need: locks of every kind, rows of boats, canals, and numbers of many figures."""

import itertools
import random

from lockhouse.canal import Canal, Reach
from lockhouse.kinds import BasinLock, PlainLock, PumpLock

# As many figures as are promised.
LARGE = 10 ** 3999

# The greatest number that tells a canal.
GREATEST = 999999999999

# How a chamber may stand: empty, full.
EACH_STAND = (False, True)

# Names that are beginnings, ends or middles of one another, and words that rows are written with.
NAMES = ("a", "aa", "ab", "b", "abc", "bc", "abcdefghijkl", "reach", "lock", "night", "basin", "pump", "zz")


def every_small_lock(most=5):
    """Pairs of a lock and what its basin holds, each in all that fits, rooms up to `most`."""
    for room in range(1, most + 1):
        yield PlainLock("gate", 2, 1, room), 0
        for extra in range(1, room + 1):
            yield PumpLock("gate", 2, 1, room, extra), 0
            for basin in range(extra + 1):
                yield BasinLock("gate", 2, 1, room, extra), basin


def every_row(most):
    """Every row of up to `most` boats, the row of none first."""
    for many in range(most + 1):
        for row in itertools.product(("up", "down"), repeat=many):
            yield list(row)


def told(canal):
    """All that tells a canal, as tuples, so that two canals can be set side by side."""
    reaches = [(r.name, r.least, r.crest, r.berths, r.water, r.target) for r in canal.reaches]
    locks = [(k.name, k.high, k.low, k.room, k.kind(), k.extra()) for k in canal.locks]
    return (tuple(reaches), tuple(locks), tuple([tuple(night) for night in canal.nights]))


def some_reach(source, name, at):
    crest = source.choice((0, 1, 7, 40, GREATEST))
    least = source.choice((0, crest // 2, crest))
    water = source.choice((0, least, crest, min(crest + 3, GREATEST), GREATEST))
    return Reach(name, least, crest, source.randrange(1, 10), water, source.randrange(-1, at))


def some_lock(source, name, many):
    low, high = sorted(source.sample(range(many), 2))
    room = source.choice((1, 2, 30, GREATEST))
    extra = source.choice((1, (room + 1) // 2, room))
    kind = source.choice((PlainLock, BasinLock, PumpLock))
    return PlainLock(name, high, low, room) if kind is PlainLock else kind(name, high, low, room, extra)


def some_night(source, many):
    return [source.choice(((0, 0), (0, 5), (5, 0), (12, 12), (GREATEST, GREATEST))) for _ in range(many)]


def some_canals(many, seed=4):
    """Canals of all sizes within the bounds, the same ones at every run."""
    source = random.Random(seed)
    for _ in range(many):
        names = source.sample(NAMES, source.randrange(1, 9))
        reaches = [some_reach(source, name, at) for at, name in enumerate(names)]
        called = source.sample(NAMES + ("sea",), source.randrange(0, 9) if len(names) > 1 else 0)
        locks = [some_lock(source, name, len(names)) for name in called]
        yield Canal(reaches, locks, [some_night(source, len(names)) for _ in range(source.randrange(0, 7))])
