"""What a house is asked: the rows of its text, its keeper's row, and the lock for which advice is asked."""

from lockhouse.errors import BadRow
from lockhouse.words import number_of, refuse_no_names, rows_of, text_of

MOST_UNTOLD = 200
LEAST_BOUND = 1
GREATEST_BOUND = 1000


def parted(text):
    rows = rows_of(text)
    begins = [at for at, row in enumerate(rows) if first_word(row) == "keeper"]
    ahead = begins[0] if begins else len(rows)
    return (text_of(rows[:ahead]), rows[ahead:])


def first_word(row):
    return row.split(" ")[0]


def most_of(row):
    if row == "keeper":
        return MOST_UNTOLD
    most = number_of(word_behind("keeper", row))
    if not LEAST_BOUND <= most <= GREATEST_BOUND:
        raise BadRow("a bound that no look is given")
    return most


def lock_asked(row):
    name = word_behind("advice", row)
    refuse_no_names([name])
    return name


def word_behind(first, row):
    words = row.split(" ")
    if len(words) != 2 or words[0] != first:
        raise BadRow("not the one word behind the first")
    return words[1]
