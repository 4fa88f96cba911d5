"""What the tests of several modules need: locks, rows of boats, canals, ways, graphs, books, a house's witness."""

import copy
import itertools
import random

from lockhouse.advice import advice
from lockhouse.boats import all_home, begun, step_ends
from lockhouse.book import Book
from lockhouse.canal import Canal, Reach
from lockhouse.deeds import after, may
from lockhouse.errors import CanalError
from lockhouse.journal import entry_of
from lockhouse.kinds import BasinLock, PlainLock, PumpLock
from lockhouse.look import is_knot, leads_home
from lockhouse.reading import canal_of
from lockhouse.walking import walked
from lockhouse.words import is_name

# As many figures as are promised.
LARGE = 10 ** 3999

# The greatest number that tells a canal.
GREATEST = 999999999999

# How a chamber may stand: empty, full.
EACH_STAND = (False, True)

# Names that are beginnings, ends or middles of one another, and words that rows are written with.
NAMES = ("a", "aa", "ab", "b", "abc", "bc", "abcdefghijkl", "reach", "lock", "night", "basin", "pump", "zz")


def every_small_lock(most=5):
    """Pairs of a lock and what its basin holds, each in all that fits, rooms up to `most`."""
    for room in range(1, most + 1):
        yield PlainLock("gate", 2, 1, room), 0
        for extra in range(1, room + 1):
            yield PumpLock("gate", 2, 1, room, extra), 0
            for basin in range(extra + 1):
                yield BasinLock("gate", 2, 1, room, extra), basin


def every_row(most):
    """Every row of up to `most` boats, the row of none first."""
    for many in range(most + 1):
        for row in itertools.product(("up", "down"), repeat=many):
            yield list(row)


def told(canal):
    """All that tells a canal, as tuples, so that two canals can be set side by side."""
    reaches = [(r.name, r.least, r.crest, r.berths, r.water, r.target) for r in canal.reaches]
    locks = [(k.name, k.high, k.low, k.room, k.kind(), k.extra()) for k in canal.locks]
    return (tuple(reaches), tuple(locks), tuple([tuple(night) for night in canal.nights]))


def some_reach(source, name, at):
    crest = source.choice((0, 1, 7, 40, GREATEST))
    least = source.choice((0, crest // 2, crest))
    water = source.choice((0, least, crest, min(crest + 3, GREATEST), GREATEST))
    return Reach(name, least, crest, source.randrange(1, 10), water, source.randrange(-1, at))


def some_lock(source, name, many):
    low, high = sorted(source.sample(range(many), 2))
    room = source.choice((1, 2, 30, GREATEST))
    extra = source.choice((1, (room + 1) // 2, room))
    kind = source.choice((PlainLock, BasinLock, PumpLock))
    return PlainLock(name, high, low, room) if kind is PlainLock else kind(name, high, low, room, extra)


def some_night(source, many):
    return [source.choice(((0, 0), (0, 5), (5, 0), (12, 12), (GREATEST, GREATEST))) for _ in range(many)]


def some_canals(many, seed=4):
    """Canals of all sizes within the bounds, the same ones at every run."""
    source = random.Random(seed)
    for _ in range(many):
        names = source.sample(NAMES, source.randrange(1, 9))
        reaches = [some_reach(source, name, at) for at, name in enumerate(names)]
        called = source.sample(NAMES + ("sea",), source.randrange(0, 9) if len(names) > 1 else 0)
        locks = [some_lock(source, name, len(names)) for name in called]
        yield Canal(reaches, locks, [some_night(source, len(names)) for _ in range(source.randrange(0, 7))])


def small_canal(source):
    """A canal with small numbers, in which many deeds can be done and many not, each for every word."""
    many = source.randrange(1, 5)
    reaches = []
    for at in range(many):
        crest = source.randrange(8, 31)
        least = source.randrange(0, 6)
        reaches.append(Reach(NAMES[at], least, crest, source.randrange(1, 3), source.randrange(0, 36),
                             source.randrange(-1, at)))
    locks = []
    for k in range(source.randrange(0, 5) if many > 1 else 0):
        low, high = sorted(source.sample(range(many), 2))
        room = source.randrange(1, 7)
        kind = source.choice((PlainLock, BasinLock, PumpLock))
        extra = [] if kind is PlainLock else [source.randrange(1, room + 1)]
        locks.append(kind(NAMES[k], high, low, room, *extra))
    nights = [[(source.randrange(0, 12), source.choice((0, 3, 9, 40))) for _ in range(many)]
              for _ in range(source.randrange(0, 4))]
    return Canal(reaches, locks, nights)


def some_way(source, canal):
    """A linked way of 1 to 8 steps; the canal has a lock."""
    first = source.choice([(k, side) for k in range(len(canal.locks)) for side in ("up", "down")])
    steps = [first]
    for _ in range(source.randrange(0, 8)):
        at = step_ends(canal.locks[steps[-1][0]], steps[-1][1])[1]
        steps.append(source.choice([(k, side) for k, lock in enumerate(canal.locks) for side in ("up", "down")
                                    if step_ends(lock, side)[0] == at]))
    return (step_ends(canal.locks[first[0]], first[1])[0], tuple(steps))


def some_ways(source, canal, most=5):
    many = source.randrange(0, most + 1) if canal.locks else 0
    return [some_way(source, canal) for _ in range(many)]


def some_worlds(many, seed=5):
    """Canals, small ones and such of all sizes, each with ways; the same ones at every run."""
    source = random.Random(seed)
    for canal in some_canals(many, seed):
        yield canal, some_ways(source, canal, 9)
        small = small_canal(source)
        yield small, some_ways(source, small)


def some_moves(many, seed=5):
    """Tuples of a canal, ways, a state, a deed that can be done in it and the state behind it, along rows of deeds."""
    source = random.Random(seed)
    for canal, ways in some_worlds(many, seed):
        state = begun(canal, ways)
        deeds = may(canal, ways, state)
        while deeds:
            deed = source.choice(deeds)
            behind = after(canal, ways, state, deed)
            yield canal, ways, state, deed, behind
            state = behind
            deeds = may(canal, ways, state)


# States of every sort: numbers, texts, tuples, and tuples of tuples.
STATES = (0, -1, "", "a", "0", (), (0,), ("a", 0), ((0, "a"), ("",)), 7, "ab", (1, (2, (3,))))


def ahead_of(edges):
    """The function `ahead` of a dict with a list of pairs (deed, state behind it) for each state that has deeds."""
    return lambda state: edges.get(state, [])


def ended_at(*states):
    return lambda state: state in states


def some_graphs(many, seed=6):
    """Tuples of a first state, a dict of edges as `ahead_of` takes it, and a tuple of the ended states."""
    source = random.Random(seed)
    for _ in range(many):
        states = source.sample(STATES, source.randrange(1, len(STATES) + 1))
        dense = source.choice((0, 1, 2, 4))
        edges = {}
        for state in states:
            deeds = source.sample(("x", "y", 1, ("z", 2)), source.randrange(0, dense + 1))
            edges[state] = [(deed, source.choice(states)) for deed in deeds]
        ended = tuple(source.sample(states, min(len(states), source.choice((0, 0, 1, 2)))))
        yield states[0], edges, ended


def distances(first, edges):
    """How many deeds lead at the least to each state that is come to."""
    far = {first: 0}
    before = {}
    while far != before:
        before = dict(far)
        for state, pairs in edges.items():
            for _, behind in pairs:
                if state in far:
                    far[behind] = min(far.get(behind, far[state] + 1), far[state] + 1)
    return far


def ahead_on(canal, ways):
    """The functions `ahead` and `ended` of a canal: the deeds that can be done, and whether all boats are home."""
    def ahead(state):
        return [(deed, after(canal, ways, state, deed)) for deed in may(canal, ways, state)]

    return ahead, lambda state: all_home(ways, state)


def mill():
    """A canal and the ways of a boat up and a boat down; the high reach can give to one fill alone."""
    reaches = [Reach("a", 0, 50, 1, 10, -1), Reach("b", 4, 50, 1, 14, 0)]
    canal = Canal(reaches, [PlainLock("p", 1, 0, 10)], [[(0, 0), (0, 0)]])
    return canal, [(0, ((0, "up"),)), (1, ((0, "down"),))]


def stands(book):
    """All that a book tells, as it stands now, in lists that nobody else has."""
    kept = (book.names(), book.ways(), book.state(), book.ledger(), book.gatework(), book.entries())
    return (told(book.canal()),) + copy.deepcopy(kept)


def some_weather(source, book):
    """Weather as foretold or near it, wetter and drier, now and then with a pair too few or too many."""
    canal = book.canal()
    day = book.state()[0]
    foretold = canal.nights[day] if day < len(canal.nights) else [(2, 2)] * len(canal.reaches)
    more = source.choice(((0,), (0, 1, 7), (0, 0, 0, 0, -1)))
    weather = [(max(0, comes + source.choice(more)), max(0, goes - source.choice(more))) for comes, goes in foretold]
    return tuple(source.choice((weather, weather, weather, weather, weather[:-1], weather + [(0, 0)])))


def some_come(source, book):
    """A boat that comes; now and then by no name, one that is taken, from elsewhere or by a lock that is not there."""
    canal = book.canal()
    name = source.choice(NAMES + ("sea", "", "A", "abcdefghijklm"))
    if not canal.locks:
        return ("come", name, source.choice(NAMES), (("p", "up"),))
    start, steps = some_way(source, canal)
    named = [(canal.locks[k].name, side) for k, side in steps[:source.randrange(1, 4)]]
    if source.random() < 0.1:
        named.insert(source.randrange(len(named) + 1), source.choice((("none", "up"), named[0])))
    return ("come", name, source.choice((canal.reaches[start].name,) * 8 + ("none", "sea", NAMES[0])), tuple(named))


def some_entry(source, book):
    """An entry of any of the six sorts: many that can be done, some that cannot, some that are refused."""
    canal = book.canal()
    reaches = [reach.name for reach in canal.reaches]
    called = {"pass": book.names(), "let": [lock.name for lock in canal.locks], "take": reaches, "rain": reaches}
    word = source.choice(("come", "come", "pass", "pass", "pass", "let", "night", "take", "rain"))
    if word == "come" or (word == "pass" and not book.names() and source.random() < 0.9):
        return some_come(source, book)
    if word == "night":
        return ("night", some_weather(source, book))
    name = source.choice(called[word] * 6 + [source.choice(NAMES)])
    amounts = (source.choice((0, 1, 2, 5, 9, 30)),)
    return (word, name) + (amounts if word in ("take", "rain") else ())


def some_books(many, seed=7):
    """Books of small canals, without boats yet, each with a source of entries for it."""
    source = random.Random(seed)
    for _ in range(many):
        canal = small_canal(source)
        # Not many without a lock: no boat comes to these.
        while not canal.locks and source.random() < 0.9:
            canal = small_canal(source)
        yield Book(canal), source


# Chambers 3 to 5, basins 6 to 8, the sea 9, the sky 10. A lock is called like a reach, and one sea.
STAIR = """
reach a 5 50 2 30 sea
reach b 5 60 1 40 a
reach c 10 100 9 90 b
lock p b a 10
lock a c b 10 basin 4
lock sea c b 6 pump 2
night a 3 1 b 0 2
night b 5 50 c 1 0
"""
STAIR_START = (30, 40, 90, 0, 0, 0, 0, 0, 0, 0, 0)

# The weather that is foretold for the two nights of the stair.
FORETOLD = ((3, 1), (0, 2), (0, 0))
SECOND = ((0, 0), (5, 50), (1, 0))

# Boats that come to the stair: two from a, one of them up and no farther, and one from c.
UP = ("come", "x", "a", (("p", "up"),))
FAR = ("come", "y", "a", (("p", "up"), ("a", "up")))
DOWN = ("come", "z", "c", (("sea", "down"), ("p", "down")))


def book_behind(*entries, text=STAIR):
    """The book of a canal in which these entries have been done."""
    book = Book(canal_of(text))
    for entry in entries:
        book.do(entry)
    return book


# The words of 9.5.
REFUSAL_WORDS = {
    "BadRow": "row", "Twice": "twice", "TooMany": "many", "Unknown": "unknown", "NotLinked": "linked",
    "BadNumber": "number", "TooDry": "dry", "TooWide": "wide",
}


def looked_ahead(canal, ways, state, ended, most):
    """What a look must come to: ("wide", 0), ("found", the fewest deeds) or ("closed", the count of states)."""
    seen, layer, deeds = {state}, {state}, 0
    while len(seen) <= most:
        if any(ended(one) for one in layer):
            return ("found", deeds)
        layer = {after(canal, ways, one, deed) for one in layer for deed in may(canal, ways, one)} - seen
        if not layer:
            return ("closed", len(seen))
        seen |= layer
        deeds += 1
    return ("wide", 0)


class Witness:
    """Stands beside a house with a book and a plan of its own, and looks whether each answer is the one of 9.4 and 9.5.

    It uses no keeper, no search and none of the house's own texts. `heard` tells of which sort an answer was.
    """

    def __init__(self, case, canal, most):
        self.case = case
        self.book = Book(canal)
        self.most = most
        self.plan = []

    def heard(self, row, answer):
        try:
            return self.sort_of(row, answer)
        except CanalError as error:
            word = "refused " + REFUSAL_WORDS[type(error).__name__]
            self.case.assertEqual(answer, word, row)
            return word

    def sort_of(self, row, answer):
        told_plain = {"plan": self.with_deeds("plan", self.plan), "waters": self.waters()}
        if row in told_plain:
            self.case.assertEqual(answer, told_plain[row])
            return row
        if row == "work":
            return self.worked(answer)
        if row == "knots":
            return self.knots(answer)
        words = row.split(" ")
        if words[0] == "advice" and len(words) == 2 and is_name(words[1]):
            self.case.assertEqual(answer, " ".join(["advice"] + advice(self.book, words[1])))
            return "advice"
        return self.wished(row, answer)

    def waters(self):
        return "waters" + "".join(f" {water}" for water in self.book.state()[1][:len(self.book.canal().reaches)])

    def called(self, kind):
        return self.book.names() if kind == "pass" else [lock.name for lock in self.book.canal().locks]

    def with_deeds(self, word, row):
        shown = [deed[0] if deed == ("night",) else f"{deed[0]} {self.called(deed[0])[deed[1]]}" for deed in row]
        return f"{word} " + ", ".join(shown) if shown else word

    def deeds_told(self, word, answer):
        """The deeds that an answer shows behind a word."""
        self.case.assertTrue(answer == word or answer.startswith(word + " "), answer)
        deeds = []
        for shown in answer[len(word) + 1:].split(", ") if answer != word else []:
            parts = shown.split(" ")
            deeds.append((parts[0], self.called(parts[0]).index(parts[1])) if len(parts) == 2 else tuple(parts))
        self.case.assertEqual(answer, self.with_deeds(word, deeds))
        return deeds

    def worked(self, answer):
        if not self.plan:
            self.case.assertEqual(answer, "not done")
            return "not"
        kind = self.plan[0][0]
        foretold = self.book.canal().nights[self.book.state()[0]:][:1]
        behind = tuple(foretold[0]) if kind == "night" else self.called(kind)[self.plan[0][1]]
        self.done((kind, behind), self.plan[1:])
        self.case.assertEqual(answer, self.with_deeds("yes", self.plan))
        return "worked"

    def done(self, entry, plan):
        self.book.do(entry)
        self.plan = plan
        book = self.book
        self.case.assertTrue(leads_home(book.canal(), book.ways(), book.state(), plan))

    def is_first_deed(self, entry):
        if not self.plan or entry[0] != self.plan[0][0]:
            return False
        return entry[0] == "night" or self.called(entry[0]).index(entry[1]) == self.plan[0][1]

    def wished(self, row, answer):
        entry = entry_of(row)
        word = self.book.fault(entry)
        if word != "":
            self.case.assertEqual(answer, "not " + word)
            return "not"
        if entry[0] == "rain" or self.is_first_deed(entry):
            self.done(entry, self.plan if entry[0] == "rain" else self.plan[1:])
            self.case.assertEqual(answer, self.with_deeds("yes", self.plan))
            return "kept"
        return self.wished_by_look(entry, answer)

    def wished_by_look(self, entry, answer):
        ways, state = self.book.behind(entry)
        found, many = looked_ahead(self.book.canal(), ways, state, lambda one: all_home(ways, one), self.most)
        if found == "wide":
            self.case.assertEqual(answer, "refused wide")
            return "refused wide"
        if found == "closed":
            self.case.assertEqual(answer, f"no {many}")
            return "no"
        self.book.do(entry)
        plan = self.deeds_told("yes", answer)
        self.case.assertEqual(len(plan), many)
        self.case.assertTrue(leads_home(self.book.canal(), ways, state, plan))
        self.plan = plan
        return "yes"

    def knots(self, answer):
        canal, ways, state = self.book.canal(), self.book.ways(), self.book.state()
        found, many = looked_ahead(canal, ways, state, lambda one: is_knot(canal, ways, one), self.most)
        if found == "closed":
            self.case.assertEqual(answer, f"free {many}")
        elif found == "found":
            row = self.deeds_told("knot", answer)
            self.case.assertEqual(len(row), many)
            self.case.assertTrue(is_knot(canal, ways, walked(canal, ways, state, row)))
        else:
            self.case.assertEqual(answer, "refused wide")
        return {"closed": "free", "found": "knot", "wide": "refused wide"}[found]


def some_row(source, book):
    """A row that a house may be asked: entries of all sorts, the other asks, and rows of no kind."""
    locks = [lock.name for lock in book.canal().locks]
    other = ("work", "work", "plan", "waters", "knots", "advice " + source.choice(locks + ["none", "No", ""]))
    wrong = ("", " ", "night", "keeper", "works", "plan ", " waters", "reach a 0 9 1 5 sea", "pass", "advice", "let  p")
    if source.random() < 0.4:
        return source.choice(source.choice((other, other, other, wrong)))
    return row_written(some_entry(source, book))


def row_written(entry):
    """The row of an entry by another road than the journal's."""
    parts = [part if isinstance(part, tuple) else ((part,),) for part in entry]
    return " ".join(str(word) for part in parts for pair in part for word in pair)
