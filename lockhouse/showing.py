"""A canal shown as rows of text, as they are read."""

from lockhouse.canal import SEA
from lockhouse.words import text_of


def shown(canal):
    rows = [reach_row(canal, reach) for reach in canal.reaches]
    rows.extend([lock_row(canal, lock) for lock in canal.locks])
    rows.extend([night_row(canal, night) for night in canal.nights])
    return text_of(rows)


def reach_row(canal, reach):
    target = "sea" if reach.target == SEA else canal.reaches[reach.target].name
    numbers = [str(number) for number in (reach.least, reach.crest, reach.berths, reach.water)]
    return " ".join(["reach", reach.name] + numbers + [target])


def lock_row(canal, lock):
    high = canal.reaches[lock.high].name
    low = canal.reaches[lock.low].name
    behind = [] if lock.kind() == "plain" else [lock.kind(), str(lock.extra())]
    return " ".join(["lock", lock.name, high, low, str(lock.room)] + behind)


def night_row(canal, night):
    words = ["night"]
    for reach, pair in zip(canal.reaches, night):
        if pair != (0, 0):
            words.extend([reach.name, str(pair[0]), str(pair[1])])
    return " ".join(words)
