"""Rows of text that tell a canal, read to the canal that they tell."""

from lockhouse.canal import Canal, Reach, SEA, place_called
from lockhouse.errors import BadNumber, BadRow, TooMany, Twice
from lockhouse.kinds import BasinLock, PlainLock, PumpLock
from lockhouse.words import numbers_of, refuse_no_names, rows_of

MOST_REACHES = 8
MOST_LOCKS = 8
MOST_NIGHTS = 6
MOST_BERTHS = 9


def canal_of(text):
    reaches = []
    locks = []
    nights = []
    for row in rows_of(text):
        read_row(row.split(" "), reaches, locks, nights)
    if not reaches:
        raise BadRow("no row tells a reach")
    return Canal(reaches, locks, [widened(night, len(reaches)) for night in nights])


def read_row(words, reaches, locks, nights):
    if words[0] == "reach":
        reaches.append(reach_read(words, reaches))
    elif words[0] == "lock":
        locks.append(lock_read(words, reaches, locks))
    elif words[0] == "night":
        nights.append(night_read(words, reaches, nights))
    else:
        raise BadRow("a row that begins with none of the three words")


# A row is refused for the first reason that is so. So in each of the three below the refusals stand in
# the order BadRow, Twice, Unknown, BadNumber, TooMany, and all words are read ahead of any other reason.
def reach_read(words, reaches):
    if len(words) != 7 or words[1] == "sea":
        raise BadRow("not the words of a reach")
    refuse_no_names([words[1], words[6]])
    numbers = numbers_of(words[2:6])
    refuse_told(words[1], reaches)
    target = SEA if words[6] == "sea" else place_called(words[6], reaches)
    reach = Reach(words[1], numbers[0], numbers[1], numbers[2], numbers[3], target)
    refuse_bad_reach(reach)
    refuse_many(reaches, MOST_REACHES)
    return reach


def lock_read(words, reaches, locks):
    if len(words) != 5 and (len(words) != 7 or words[5] not in ("basin", "pump")):
        raise BadRow("not the words of a lock")
    refuse_no_names(words[1:4])
    numbers = numbers_of(words[4:5] + words[6:])
    refuse_told(words[1], locks)
    high = place_called(words[2], reaches)
    low = place_called(words[3], reaches)
    lock = lock_made(words, high, low, numbers)
    refuse_bad_lock(lock)
    refuse_many(locks, MOST_LOCKS)
    return lock


def night_read(words, reaches, nights):
    if len(words) % 3 != 1:
        raise BadRow("not the words of a night")
    names = words[1::3]
    refuse_no_names(names)
    weather = list(zip(numbers_of(words[2::3]), numbers_of(words[3::3])))
    if len(set(names)) != len(names):
        raise Twice("a night names a reach twice")
    places = [place_called(name, reaches) for name in names]
    refuse_many(nights, MOST_NIGHTS)
    night = widened([], len(reaches))
    for place, pair in zip(places, weather):
        night[place] = pair
    return night


# A night tells of the reaches behind it, too, and these are known at the text's end only.
def widened(night, many):
    return night + [(0, 0)] * (many - len(night))


def lock_made(words, high, low, numbers):
    if len(words) == 5:
        return PlainLock(words[1], high, low, numbers[0])
    if words[5] == "basin":
        return BasinLock(words[1], high, low, numbers[0], numbers[1])
    return PumpLock(words[1], high, low, numbers[0], numbers[1])


def refuse_told(name, things):
    if name in [thing.name for thing in things]:
        raise Twice("the name is told ahead")


def refuse_bad_reach(reach):
    if reach.least > reach.crest:
        raise BadNumber("a least above its crest")
    if not 1 <= reach.berths <= MOST_BERTHS:
        raise BadNumber("too few berths or too many")


def refuse_bad_lock(lock):
    if lock.low >= lock.high:
        raise BadNumber("the low reach is not told ahead of the high one")
    if lock.room == 0:
        raise BadNumber("a room of nought")
    if lock.kind() != "plain" and not 1 <= lock.extra() <= lock.room:
        raise BadNumber("a basin or a lift of nought or above the room")


def refuse_many(things, most):
    if len(things) >= most:
        raise TooMany("more than a canal has")
