"""The words of which rows are written: names and numbers."""

from lockhouse.errors import BadRow

LETTERS = "abcdefghijklmnopqrstuvwxyz"
FIGURES = "0123456789"
MOST_SIGNS = 12


# The signs are written out above: what Python itself takes for a letter or a figure goes far beyond them.
def written_with(word, signs):
    return 1 <= len(word) <= MOST_SIGNS and all([sign in signs for sign in word])


def is_name(word):
    return written_with(word, LETTERS)


def is_number(word):
    return word == "0" or (written_with(word, FIGURES) and word[0] != "0")


def number_of(word):
    if not is_number(word):
        raise BadRow("a word that writes no number")
    return int(word)
