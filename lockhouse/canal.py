"""A canal: its reaches, its locks, the nights foretold for it, and the numbers of its vessels."""

from lockhouse.errors import Unknown
from lockhouse.weirs import settled

# What stands in the place of a reach's number where a weir leads to the sea.
SEA = -1


def place_called(name, things):
    for place, thing in enumerate(things):
        if thing.name == name:
            return place
    raise Unknown("none is called so")


class Reach:
    def __init__(self, name, least, crest, berths, water, target):
        self.name = name
        self.least = least
        self.crest = crest
        self.berths = berths
        self.water = water
        self.target = target


class Canal:
    def __init__(self, reaches, locks, nights=None):
        self.reaches = list(reaches)
        self.locks = list(locks)
        self.nights = [] if nights is None else [list(night) for night in nights]

    def reach_at(self, name):
        return place_called(name, self.reaches)

    def lock_at(self, name):
        return place_called(name, self.locks)

    def many(self):
        return self.sky() + 1

    def chamber(self, k):
        return len(self.reaches) + k

    # Every lock has one, also where it uses none: so a basin's number asks for no lock's kind.
    def basin(self, k):
        return len(self.reaches) + len(self.locks) + k

    def sea(self):
        return len(self.reaches) + 2 * len(self.locks)

    def sky(self):
        return self.sea() + 1

    def weirs(self):
        return [(reach.crest, self.sea() if reach.target == SEA else reach.target) for reach in self.reaches]

    def start(self):
        waters = [reach.water for reach in self.reaches]
        others = [0] * (self.many() - len(waters))
        return settled(self.weirs(), waters + others)

    def full(self, waters, k):
        return waters[self.chamber(k)] > 0
