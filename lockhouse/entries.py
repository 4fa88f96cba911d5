"""Entries of a book: for what one is refused, why one cannot be done, and what stands behind it.

A book is only asked here how it stands; nothing is done in it.
"""

from lockhouse.boats import has_no_berth, linked, next_step
from lockhouse.deeds import counted_on, pours, why_not
from lockhouse.errors import BadNumber, BadRow, TooDry, TooMany, Twice, Unknown
from lockhouse.nights import night_pours, wet_enough
from lockhouse.passing import passing
from lockhouse.vessels import poured_all
from lockhouse.weirs import with_spills
from lockhouse.words import is_name

MOST_BOATS = 9


def refuse_wrong(book, entry):
    if entry[0] == "come":
        refuse_wrong_come(book, entry)
    elif entry[0] == "night":
        refuse_wrong_night(book, entry[1])
    else:
        # Asked for its refusal alone, as the way of a boat that comes is below.
        number_named(book, entry)


# An entry is refused for the first reason that is so: the order of the questions is promised.
def refuse_wrong_come(book, entry):
    if not is_name(entry[1]):
        raise BadRow("a word that is no name")
    if entry[1] in book.names():
        raise Twice("a boat is called so already")
    if len(book.names()) >= MOST_BOATS:
        raise TooMany("more boats than a canal has")
    way = way_told(book.canal(), entry)
    linked(book.canal(), way[0], way[1])


def refuse_wrong_night(book, weather):
    canal = book.canal()
    day = book.state()[0]
    if len(weather) != len(canal.reaches):
        raise BadNumber("not one pair for each reach")
    if day < len(canal.nights) and not wet_enough(weather, canal.nights[day]):
        raise TooDry("the weather is drier than foretold")


def way_told(canal, entry):
    start = canal.reach_at(entry[2])
    return (start, tuple([(canal.lock_at(name), side) for name, side in entry[3]]))


def number_named(book, entry):
    # Boats, locks and reaches may be called alike: the entry's first word tells which of them is meant.
    if entry[0] == "pass":
        return boat_called(entry[1], book.names())
    if entry[0] == "let":
        return book.canal().lock_at(entry[1])
    return book.canal().reach_at(entry[1])


def boat_called(name, names):
    if name not in names:
        raise Unknown("no boat is called so")
    return names.index(name)


def deed_of(book, entry):
    if entry[0] == "night":
        return ("night",)
    if entry[0] == "pass" or entry[0] == "let":
        return (entry[0], number_named(book, entry))
    return None


def entry_of_deed(book, deed):
    canal = book.canal()
    if deed[0] == "pass":
        return ("pass", book.names()[deed[1]])
    if deed[0] == "let":
        return ("let", canal.locks[deed[1]].name)
    return ("night", tuple(canal.nights[book.state()[0]]))


def why_no_entry(book, entry):
    if entry[0] == "come":
        start = book.canal().reach_at(entry[2])
        return "berth" if has_no_berth(book.canal(), book.ways(), book.state(), start) else ""
    if entry[0] == "take":
        return "water" if takes_too_much(book, entry) else ""
    if entry[0] == "rain":
        return ""
    return why_not(book.canal(), book.ways(), book.state(), deed_of(book, entry))


def takes_too_much(book, entry):
    at = number_named(book, entry)
    return book.state()[1][at] - entry[2] < book.canal().reaches[at].least


def entry_pours(book, entry):
    canal = book.canal()
    if entry[0] == "come":
        return []
    if entry[0] == "take":
        return single_pour(number_named(book, entry), canal.sky(), entry[2])
    if entry[0] == "rain":
        fallen = single_pour(canal.sky(), number_named(book, entry), entry[2])
        return with_spills(canal.weirs(), book.state()[1], fallen)
    if entry[0] == "night":
        return night_pours(canal, book.state(), entry[1])
    return pours(canal, book.ways(), book.state(), deed_of(book, entry))


# No pour of 0 is ever kept.
def single_pour(source, target, amount):
    return [] if amount == 0 else [(source, target, amount)]


def ways_behind(book, entry):
    if entry[0] == "come":
        return book.ways() + [way_told(book.canal(), entry)]
    return book.ways()


def state_behind(book, entry):
    state = book.state()
    # By the pours that the ledger keeps, so that they always lead to the state's waters.
    waters = poured_all(state[1], entry_pours(book, entry))
    if entry[0] == "come":
        return (state[0], waters, state[2] + (0,))
    if entry[0] == "take" or entry[0] == "rain":
        return (state[0], waters, state[2])
    return counted_on(state, deed_of(book, entry), waters)


def words_worked(book, entry):
    if entry[0] == "let":
        return [(entry[1], ["let"])]
    if entry[0] == "pass":
        return [pass_worked(book.canal(), book.ways(), book.state(), number_named(book, entry))]
    return []


def pass_worked(canal, ways, state, boat):
    step = next_step(ways[boat], state[2][boat])
    return (canal.locks[step[0]].name, passing(canal.full(state[1], step[0]), step[1]))
