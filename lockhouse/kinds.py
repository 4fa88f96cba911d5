"""The three kinds of locks, and the parts of their fills and lets."""


def parts_not_nought(parts):
    return [part for part in parts if part[1] != 0]


class PlainLock:
    def __init__(self, name, high, low, room):
        self.name = name
        self.high = high
        self.low = low
        self.room = room

    # The basin is told to every kind, so that whoever works a lock need not ask which kind it is.
    def fill_parts(self, basin):
        return parts_not_nought([("high", self.room)])

    def let_parts(self, basin):
        return parts_not_nought([("low", self.room)])

    def kind(self):
        return "plain"

    def extra(self):
        return 0


class BasinLock(PlainLock):
    def __init__(self, name, high, low, room, side):
        PlainLock.__init__(self, name, high, low, room)
        self.side = side

    def fill_parts(self, basin):
        return parts_not_nought([("basin", basin), ("high", self.room - basin)])

    def let_parts(self, basin):
        saved = self.side - basin
        return parts_not_nought([("basin", saved), ("low", self.room - saved)])

    def kind(self):
        return "basin"

    def extra(self):
        return self.side


class PumpLock(PlainLock):
    def __init__(self, name, high, low, room, lift):
        PlainLock.__init__(self, name, high, low, room)
        self.lift = lift

    def fill_parts(self, basin):
        return parts_not_nought([("low", self.lift), ("high", self.room - self.lift)])

    def kind(self):
        return "pump"

    def extra(self):
        return self.lift
