"""The machine of a lock: its two gates, its four waters, its boat, and the words that it does."""

from lockhouse.errors import Against, Full, NoBoat, NotNow, Short, Unknown
from lockhouse.passing import filling, letting
from lockhouse.vessels import poured_all

VESSELS = {"high": 0, "low": 1, "chamber": 2, "basin": 3}

WORDS = {
    "open high": ("open", "high"),
    "open low": ("open", "low"),
    "shut high": ("shut", "high"),
    "shut low": ("shut", "low"),
    "fill": ("fill", ""),
    "let": ("let", ""),
    "in high": ("in", "high"),
    "in low": ("in", "low"),
    "out high": ("out", "high"),
    "out low": ("out", "low"),
}


class Chamber:
    def __init__(self, lock, waters, least):
        self.lock = lock
        self.held = tuple(waters)
        self.least = tuple(least)
        # One text for both gates, "" where both are shut: so they can never be open together.
        self.open_side = ""
        self.inside = False

    def waters(self):
        return self.held

    def gates(self):
        return (self.open_side == "high", self.open_side == "low")

    def boat(self):
        return self.inside

    def do(self, word):
        if word not in WORDS:
            raise Unknown("no word of a lock's machine")
        verb = WORDS[word][0]
        side = WORDS[word][1]
        if verb == "open":
            self.open_gate(side)
        elif verb == "shut":
            self.shut_gate(side)
        elif verb == "fill":
            self.fill_chamber()
        elif verb == "let":
            self.let_chamber()
        elif verb == "in":
            self.boat_in(side)
        else:
            self.boat_out(side)

    def open_gate(self, side):
        if self.open_side == side:
            raise NotNow("the gate is open already")
        self.refuse_open_gate()
        if not self.stands_at(side):
            raise Against("the chamber does not stand at the level of that side")
        self.open_side = side

    def shut_gate(self, side):
        self.refuse_shut_gate(side)
        self.open_side = ""

    def fill_chamber(self):
        self.refuse_open_gate()
        if self.stands_at("high"):
            raise NotNow("the chamber is full already")
        pours = filling(self.lock, self.held[VESSELS["basin"]])
        behind = self.after_pours(pours)
        for source, target, amount in pours:
            if source != "basin" and behind[VESSELS[source]] < self.least[VESSELS[source]]:
                raise Short("a reach that gives would hold less than its least")
        self.held = behind

    def let_chamber(self):
        self.refuse_open_gate()
        if self.stands_at("low"):
            raise NotNow("the chamber holds nothing")
        self.held = self.after_pours(letting(self.lock, self.held[VESSELS["basin"]]))

    def boat_in(self, side):
        self.refuse_shut_gate(side)
        if self.inside:
            raise Full("a boat is inside already")
        self.inside = True

    def boat_out(self, side):
        self.refuse_shut_gate(side)
        if not self.inside:
            raise NoBoat("no boat is inside")
        self.inside = False

    def refuse_open_gate(self):
        if self.open_side != "":
            raise Against("a gate is open")

    def refuse_shut_gate(self, side):
        if self.open_side != side:
            raise NotNow("the gate of that side is not open")

    def stands_at(self, side):
        level = self.lock.room if side == "high" else 0
        return self.held[VESSELS["chamber"]] == level

    def after_pours(self, pours):
        numbered = [(VESSELS[source], VESSELS[target], amount) for source, target, amount in pours]
        return poured_all(self.held, numbered)
