"""The journal: entries written as rows of words, and rows read to the entries that they write."""

from lockhouse.errors import BadRow
from lockhouse.words import number_of, numbers_of, refuse_no_names, rows_of, text_of

MOST_PAIRS = 8
WAYS = ("up", "down")


def written(entries):
    return text_of([row_of_entry(entry) for entry in entries])


def row_of_entry(entry):
    if entry[0] == "come":
        return " ".join(["come", entry[1], entry[2]] + words_of_pairs(entry[3]))
    if entry[0] == "night":
        return " ".join(["night"] + words_of_pairs(entry[1]))
    return " ".join([str(part) for part in entry])


def words_of_pairs(pairs):
    words = []
    for first, second in pairs:
        words.extend([str(first), str(second)])
    return words


def entries_of(text):
    return [entry_of(row) for row in rows_of(text)]


def entry_of(row):
    words = row.split(" ")
    if words[0] == "come":
        return come_read(words)
    if words[0] == "night":
        return ("night", paired(numbers_of(words[1:])))
    if words[0] == "pass" or words[0] == "let":
        return named_read(words)
    if words[0] == "take" or words[0] == "rain":
        return amount_read(words)
    raise BadRow("a row that begins with no word of an entry")


def come_read(words):
    steps = paired(words[3:])
    refuse_no_names(words[1:3] + [name for name, way in steps])
    if not all([way in WAYS for name, way in steps]):
        raise BadRow("a way that is neither up nor down")
    return ("come", words[1], words[2], steps)


def named_read(words):
    refuse_other_length(words, 2)
    refuse_no_names(words[1:])
    return (words[0], words[1])


def amount_read(words):
    refuse_other_length(words, 3)
    refuse_no_names(words[1:2])
    return (words[0], words[1], number_of(words[2]))


def refuse_other_length(words, many):
    if len(words) != many:
        raise BadRow("too few words or too many")


def paired(parts):
    if len(parts) % 2 != 0 or not 1 <= len(parts) // 2 <= MOST_PAIRS:
        raise BadRow("too few pairs or too many")
    return tuple(zip(parts[::2], parts[1::2]))
