"""What [E1] tells of books, asked of the entries that they have, to compare the program with."""

from tests.bookpool import ENTRIES, book_of, told_by

EARLY = [("make", 0), ("read", 0, 0), ("write", 0, 0, "new"), ("write", 0, 0, "old")]
NEVER_NEEDED = (
    [("write", phase, 0, "again") for phase in (0, 1)] + [("write", phase, 2, "old") for phase in (0, 1)]
    + [("read", phase, 2) for phase in (0, 1)])


def inserts(told, phase, pieces):
    def heeds(colour):
        return ("write", phase, colour, "new") in told or ("write", phase, colour, "again") in told
    return heeds(2) and (heeds(1) or not pieces)


def starts_early_by(told):
    return any(entry in told for entry in EARLY)


def ways_by(told, pieces, hands):
    """The ways of a book with these entries."""
    def has(*entry):
        return entry in told
    alone = hands == 1
    if not inserts(told, 0, pieces) and not (alone and not starts_early_by(told)):
        return ()
    grey_old = has("write", 1, 1, "old") and (alone or has("write", 0, 1, "old"))
    white_old = has("write", 1, 0, "old") and (alone or has("write", 0, 0, "old"))
    made = has("make", 1)
    holds = {
        "child": made and grey_old and has("read", 1, 0), "last": has("last") and inserts(told, 1, pieces),
        "old": made and grey_old and white_old, "read": made and has("read", 1, 1)}
    return tuple(way for way in sorted(holds) if holds[way])


def ways_of(book, hands):
    return ways_by(told_by(book), book[4], hands)


def near_books(chance, many):
    """Random books near those that are safe, so that each way, and what is wanting of it, comes up often."""
    books = []
    for _ in range(many):
        told = [entry for entry in ENTRIES if chance.random() < chance.choice((0, 0.1, 0.5))]
        if chance.random() < 0.7:
            told += [("write", 0, colour, chance.choice(("new", "again"))) for colour in (1, 2)]
        if chance.random() < 0.4:
            told += [("write", 1, colour, chance.choice(("new", "again"))) for colour in (1, 2)]
        if chance.random() < 0.7:
            told.append(("make", 1))
        if chance.random() < 0.6:
            told += [("write", phase, 1, "old") for phase in (0, 1)]
        if chance.random() < 0.5:
            told += [("write", phase, 0, "old") for phase in (0, 1)]
        for _ in range(chance.randrange(4)):
            dropped = chance.choice([("read", 1, 0), ("read", 1, 1), ("last",), *EARLY, *ENTRIES])
            told = [entry for entry in told if entry != dropped]
        made = (chance.choice(("grey", "black")), chance.choice(("grey", "black")))
        books.append(book_of(told, made, chance.random() < 0.5))
    return books
