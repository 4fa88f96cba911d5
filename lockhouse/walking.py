"""Rows of deeds, and when a state is as wet as another one."""

from lockhouse.deeds import after


def walked(canal, ways, state, row):
    come_to = state
    for deed in row:
        come_to = after(canal, ways, come_to, deed)
    return come_to


def as_wet(canal, state, other):
    if state[0] != other[0] or state[2] != other[2]:
        return False
    return locks_hold_the_same(canal, state[1], other[1]) and reaches_hold_as_much(canal, state[1], other[1])


def locks_hold_the_same(canal, waters, others):
    # From the first chamber to the last basin: the sea and the sky behind them are not asked.
    first = len(canal.reaches)
    return waters[first:canal.sea()] == others[first:canal.sea()]


def reaches_hold_as_much(canal, waters, others):
    return all([waters[at] >= others[at] for at in range(len(canal.reaches))])
