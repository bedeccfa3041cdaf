"""Least books: safe ones from which nothing can be left out, and what other ones lack."""

from guardbooks.books import entries, plain_book, with_entries, without
from guardbooks.errors import Unfit
from guardbooks.safety import WAYS, inserting, is_closed, is_safe, lacking, wants


def needless(book, hands):
    """Returns the ascending tuple of those entries of which each, left out alone, leaves a safe book."""
    if not is_safe(book, hands):
        raise Unfit()
    return tuple([entry for entry in entries(book) if is_safe(without(book, entry), hands)])


def is_least(book, hands):
    """Tells whether book is safe and has no needless entry."""
    return is_safe(book, hands) and not needless(book, hands)


def least_part(book, hands):
    """Returns a least book that comes of book by leaving out entries."""
    if not is_safe(book, hands):
        raise Unfit()
    part = book
    # Going through the entries once will do. What is needed stays so when others are left out: but for what closes
    # a book for one hand, where that starts early, and all that starts early stands ahead of what closes.
    for entry in entries(book):
        fewer = without(part, entry)
        if is_safe(fewer, hands):
            part = fewer
    return part


def least_books(hands, last, pieces):
    """Returns the ascending tuple of all least books with these two items that nowhere make "grey"."""
    # No other way needs a last look, and without one of its entries none of these books is safe.
    found = [way for way in WAYS if (way == "last") == last]
    choices = [choice for way in found for choice in _choices(least_rows(way, hands, pieces))]
    return tuple(sorted([with_entries(plain_book(last, pieces), choice) for choice in choices]))


def least_rows(way, hands, pieces):
    """Returns rows of entries: one of each row, and nothing else, make a book that is least by way."""
    # One hand alone is closed by not starting early: a least book for it has nothing that would.
    closing = [] if hands == 1 else inserting(0, pieces)
    return closing + wants(way, hands, pieces)


def _choices(rows):
    """Returns all tuples of one entry of each row."""
    choices = [()]
    for row in rows:
        choices = [choice + (entry,) for choice in choices for entry in row]
    return choices


def fewest_added(book, hands):
    """Returns an ascending tuple of as few entries as can be, with which book is safe."""
    closing = [] if is_closed(book, hands) else inserting(0, book[4])
    added = []
    for way in WAYS:
        rows = lacking(book, closing + wants(way, hands, book[4]))
        added.append(tuple(sorted([row[0] for row in rows])))
    return min(added, key=len)
