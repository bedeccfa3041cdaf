"""How the answers of [E3] were found at first: slowly, over lists of entries. They must stay just as they were."""

import itertools

from tests.bookpool import book_of, told_by
from tests.safetymodel import inserts, starts_early_by, ways_by, ways_of


def without(told, entry):
    return [other for other in told if other != entry]


def needless_before(book, hands):
    """None where there is an error."""
    if not ways_of(book, hands):
        return None
    told = told_by(book)
    return tuple(sorted(entry for entry in told if ways_by(without(told, entry), book[4], hands)))


def is_least_before(book, hands):
    return needless_before(book, hands) == ()


def least_part_before(book, hands):
    """The first needless entry is left out, again and again."""
    part = book
    while needless_before(part, hands):
        part = book_of(without(told_by(part), needless_before(part, hands)[0]), book[2], book[4])
    return part if ways_of(part, hands) else None


def inserting_rows(phase, pieces):
    return [
        [("write", phase, colour, word) for word in ("again", "new")] for colour in ((1, 2) if pieces else (2,))]


def rows_of(way, hands, pieces):
    """Rows of entries, of each of which the way wants one."""
    phases = (1,) if hands == 1 else (0, 1)
    rows = {
        "child": [("make", 1), ("read", 1, 0), *[("write", phase, 1, "old") for phase in phases]],
        "old": [("make", 1), *[("write", phase, colour, "old") for phase in phases for colour in (0, 1)]],
        "read": [("make", 1), ("read", 1, 1)]}
    if way == "last":
        return [[("last",)], *inserting_rows(1, pieces)]
    return [[entry] for entry in rows[way]]


def least_books_before(hands, last, pieces):
    closing = [] if hands == 1 else inserting_rows(0, pieces)
    found = []
    for way in ("child", "last", "old", "read"):
        for choice in itertools.product(*closing, *rows_of(way, hands, pieces)):
            book = book_of(choice, pieces=pieces)
            if book[3] == last and is_least_before(book, hands):
                found.append(book)
    return tuple(sorted(found))


def fewest_added_before(book, hands):
    """The first way of those that want the fewest; of each row that is wanting its first entry."""
    told, pieces = told_by(book), book[4]
    closed = inserts(told, 0, pieces) or hands == 1 and not starts_early_by(told)
    added = []
    for way in ("child", "last", "old", "read"):
        rows = ([] if closed else inserting_rows(0, pieces)) + rows_of(way, hands, pieces)
        added.append(sorted(row[0] for row in rows if not set(row) & set(told)))
    return tuple(min(added, key=len))
