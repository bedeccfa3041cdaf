"""Least books: safe ones from which nothing can be left out, and what other ones lack."""

from guardbooks.books import entries, plain_book, with_entry, without
from guardbooks.errors import Unfit
from guardbooks.safety import WAYS, inserting, is_closed, is_safe, lacking, wants


def needless(book, hands):
    """Returns the ascending tuple of those entries of which each, left out alone, leaves a safe book."""
    if not is_safe(book, hands):
        raise Unfit()
    return tuple([entry for entry in entries(book) if is_safe(without(book, entry), hands)])


def is_least(book, hands):
    """Tells whether book is safe and has no needless entry."""
    return is_safe(book, hands) and not needless(book, hands)


def least_part(book, hands):
    """Returns a least book that comes of book by leaving out entries."""
    part = book
    spare = needless(part, hands)
    # What was needless may be needed when another entry is gone, so one is left out at a time.
    while spare:
        part = without(part, spare[0])
        spare = needless(part, hands)
    return part


def least_books(hands, last, pieces):
    """Returns the ascending tuple of all least books with these two items that nowhere make "grey"."""
    # One hand alone is closed by not starting early: a least book for it has nothing that would.
    closing = [] if hands == 1 else inserting(0, pieces)
    books = []
    for way in WAYS:
        for choice in _choices(closing + wants(way, hands, pieces)):
            book = plain_book(last, pieces)
            for entry in choice:
                book = with_entry(book, entry)
            books.append(book)
    return tuple(sorted([book for book in books if book[3] == last and is_least(book, hands)]))


def _choices(rows):
    """Returns all tuples of one entry of each row."""
    choices = [()]
    for row in rows:
        choices = [choice + (entry,) for choice in choices for entry in row]
    return choices


def fewest_added(book, hands):
    """Returns an ascending tuple of as few entries as can be, with which book is safe."""
    closing = [] if is_closed(book, hands) else inserting(0, book[4])
    added = []
    for way in WAYS:
        rows = lacking(book, closing + wants(way, hands, book[4]))
        added.append(tuple(sorted([row[0] for row in rows])))
    return min(added, key=len)
