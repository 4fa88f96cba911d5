"""Revival: a book and a keeper made anew from a canal and the entries that were done in it."""

from lockhouse.book import Book
from lockhouse.errors import CanalError, Torn
from lockhouse.keeper import Keeper


def replayed(canal, entries):
    book = Book(canal)
    for entry in entries:
        try:
            book.do(entry)
        except CanalError as refusal:
            raise Torn("an entry that cannot have been done there") from refusal
    return book


def revived(canal, entries, most=200):
    return Keeper(replayed(canal, entries), most)
