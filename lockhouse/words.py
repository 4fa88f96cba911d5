"""Rows of text and the words of which they are written: names and numbers."""

from lockhouse.errors import BadRow

LETTERS = "abcdefghijklmnopqrstuvwxyz"
FIGURES = "0123456789"
MOST_SIGNS = 12


# The signs are written out above: what Python itself takes for a letter or a figure goes far beyond them.
def written_with(word, signs):
    return 1 <= len(word) <= MOST_SIGNS and all([sign in signs for sign in word])


def is_name(word):
    return written_with(word, LETTERS)


def is_number(word):
    return word == "0" or (written_with(word, FIGURES) and word[0] != "0")


def number_of(word):
    if not is_number(word):
        raise BadRow("a word that writes no number")
    return int(word)


def numbers_of(words):
    return [number_of(word) for word in words]


def refuse_no_names(words):
    if not all([is_name(word) for word in words]):
        raise BadRow("a word that is no name")


# Parted by line feeds alone: what Python itself takes for a row's end goes far beyond them.
def rows_of(text):
    return [row for row in text.split("\n") if row != ""]


def text_of(rows):
    return "".join([row + "\n" for row in rows])
