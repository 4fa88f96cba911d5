"""Vessels of water, and the pours that bring it from one to another."""

from lockhouse.errors import Short


def poured(waters, source, target, amount, keep=0):
    if keep is not None and waters[source] - amount < keep:
        raise Short("the source would hold less than it must keep")
    return poured_all(waters, [(source, target, amount)])


def poured_all(waters, pours):
    held = list(waters)
    for source, target, amount in pours:
        held[source] -= amount
        held[target] += amount
    return tuple(held)


def gains(pours, many):
    # Poured from vessels that all hold 0, what each holds behind it is its gain.
    return list(poured_all([0] * many, pours))


def total(waters):
    return sum(waters)
