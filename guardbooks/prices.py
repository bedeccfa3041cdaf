"""Prices: what books cost, and which safe ones cost least."""

from guardbooks.books import book_error, entries, is_entry, plain_book, with_entries
from guardbooks.bounds import MAX_PRICE
from guardbooks.errors import Unfit
from guardbooks.kinds import is_number_below, is_tuple_of
from guardbooks.leastbooks import least_rows
from guardbooks.safety import WAYS, is_safe


def prices_error(value):
    """Returns None if value, any value, is prices, otherwise the first error that applies."""
    if not isinstance(value, tuple):
        return "form"
    for place, item in enumerate(value):
        if not is_tuple_of(item, 2, 2) or not is_entry(item[0]) or not is_number_below(item[1], MAX_PRICE + 1):
            return ("entry", place)
    for place in range(1, len(value)):
        if value[place][0] <= value[place - 1][0]:
            return ("order", place)
    return None


def total(book, prices):
    """Returns the price of book; raises Unfit if it has none."""
    if _first_untold(book, prices) is not None:
        raise Unfit()
    told = dict(prices)
    return sum([told[entry] for entry in entries(book)])


def cheapest(prices, hands, pieces):
    """Returns a book of the least price among those that are safe for so many hands, None if there is none."""
    # Leaving out what is needless makes no book dearer, so it is enough to look for least books: of each row of
    # entries that a way wants they have one.
    choices = [_cheapest_choice(prices, least_rows(way, hands, pieces)) for way in WAYS]
    books = [with_entries(plain_book(False, pieces), choice) for choice in choices if choice is not None]
    priced = [(total(book, prices), book) for book in books]
    return min(priced)[1] if priced else None


def cheapest_error(prices, hands, pieces, value):
    """Returns None if value, any value, is what cheapest may tell, otherwise the first error that applies."""
    least = cheapest(prices, hands, pieces)
    if value is None:
        return None if least is None else "none"
    error = book_error(value)
    if error is not None:
        return ("book", error)
    if value[4] != pieces:
        return "pieces"
    entry = _first_untold(value, prices)
    if entry is not None:
        return ("price", entry)
    if not is_safe(value, hands):
        return "safe"
    return "dear" if total(value, prices) > total(least, prices) else None


def _first_untold(book, prices):
    """Returns the least entry of book that cannot be had, None if there is none."""
    told = dict(prices)
    for entry in entries(book):
        if entry not in told:
            return entry
    return None


def _cheapest_choice(prices, rows):
    """Returns a list of the cheapest entry of each row, None if of some row none can be had."""
    told = dict(prices)
    choice = []
    for row in rows:
        priced = [(told[entry], entry) for entry in row if entry in told]
        if not priced:
            return None
        choice.append(min(priced)[1])
    return choice
