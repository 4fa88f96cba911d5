"""Boats and their ways, the state in which they begin, and how far a state is from its end."""

from lockhouse.errors import NotLinked

# What is told in the place of a reach's number for a boat that is home.
HOME = -1


def linked(canal, start, steps):
    along = [start]
    for k, side in steps:
        ends = step_ends(canal.locks[k], side)
        if ends[0] != along[-1]:
            raise NotLinked("a step begins elsewhere")
        along.append(ends[1])
    return along


def step_ends(lock, side):
    return (lock.low, lock.high) if side == "up" else (lock.high, lock.low)


def begun(canal, ways):
    return (0, canal.start(), (0,) * len(ways))


def reach_of(canal, way, place):
    if steps_to_do(way, place) == 0:
        return HOME
    return linked(canal, way[0], way[1])[place]


def lying(canal, ways, state, reach):
    return [reach_of(canal, way, place) for way, place in zip(ways, state[2])].count(reach)


def has_no_berth(canal, ways, state, reach):
    return lying(canal, ways, state, reach) >= canal.reaches[reach].berths


def all_home(ways, state):
    return steps_left(ways, state) == 0


def steps_left(ways, state):
    return sum([steps_to_do(way, place) for way, place in zip(ways, state[2])])


def steps_to_do(way, place):
    return len(way[1]) - place


def next_step(way, place):
    return way[1][place]


def rank(canal, ways, state):
    full_chambers = [k for k in range(len(canal.locks)) if canal.full(state[1], k)]
    # Nights may have gone that were not foretold; there are none to come then, not fewer than none.
    nights_to_come = max(0, len(canal.nights) - state[0])
    return 2 * steps_left(ways, state) + len(full_chambers) + nights_to_come
