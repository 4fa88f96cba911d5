"""What the tests of several modules need: locks of every kind, rows of boats, and numbers of many figures."""

import itertools

from lockhouse.kinds import BasinLock, PlainLock, PumpLock

# As many figures as are promised.
LARGE = 10 ** 3999

# How a chamber may stand: empty, full.
EACH_STAND = (False, True)


def every_small_lock(most=5):
    """Pairs of a lock and what its basin holds, each in all that fits, rooms up to `most`."""
    for room in range(1, most + 1):
        yield PlainLock("gate", 2, 1, room), 0
        for extra in range(1, room + 1):
            yield PumpLock("gate", 2, 1, room, extra), 0
            for basin in range(extra + 1):
                yield BasinLock("gate", 2, 1, room, extra), basin


def every_row(most):
    """Every row of up to `most` boats, the row of none first."""
    for many in range(most + 1):
        for row in itertools.product(("up", "down"), repeat=many):
            yield list(row)
