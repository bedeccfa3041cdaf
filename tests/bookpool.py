"""Books and entries for tests, made without the program's own functions."""

import itertools
import random

WORDS = ("again", "new", "old")
GUARDS = [guard for many in range(4) for guard in itertools.combinations(WORDS, many)]
WRITES = [("write", phase, colour, word) for phase in (0, 1) for colour in (0, 1, 2) for word in WORDS]
READS = [("read", phase, colour) for phase in (0, 1) for colour in (0, 1, 2)]
MAKES = [("make", 0), ("make", 1)]
ENTRIES = [("last",)] + MAKES + READS + WRITES

NO_GUARDS = (((), (), ()), ((), (), ()))
NO_READS = ((False, False, False), (False, False, False))


def bare(last, pieces):
    return (NO_GUARDS, NO_READS, ("white", "white"), last, pieces)


def full(made, pieces):
    return (((WORDS,) * 3,) * 2, ((True,) * 3,) * 2, (made, made), True, pieces)


def book_of(told, made=("black", "black"), pieces=False):
    """The book that has just the entries told."""
    return (
        tuple(tuple(
            tuple(word for word in WORDS if ("write", phase, colour, word) in told)
            for colour in (0, 1, 2)) for phase in (0, 1)),
        tuple(tuple(("read", phase, colour) in told for colour in (0, 1, 2)) for phase in (0, 1)),
        tuple(made[phase] if ("make", phase) in told else "white" for phase in (0, 1)),
        ("last",) in told, pieces)


def told_by(book):
    """The entries that a book has."""
    writes, reads, makes, last, _ = book
    return (
        ([("last",)] if last else []) + [("make", phase) for phase in (0, 1) if makes[phase] != "white"]
        + [("read", phase, colour) for _, phase, colour in READS if reads[phase][colour]]
        + [entry for entry in WRITES if entry[3] in writes[entry[1]][entry[2]]])


def random_books(many):
    chance = random.Random(3)
    books = []
    for _ in range(many):
        part = chance.choice((0.1, 0.5, 0.9))
        told = [entry for entry in ENTRIES if chance.random() < part]
        made = (chance.choice(("grey", "black")), chance.choice(("grey", "black")))
        books.append(book_of(told, made, chance.random() < 0.5))
    return books


def pool():
    """Bare ones, full ones, those with one entry, those without one, and random ones."""
    books = [bare(last, pieces) for last in (False, True) for pieces in (False, True)]
    books += [full(made, pieces) for made in ("grey", "black") for pieces in (False, True)]
    books += [book_of([entry]) for entry in ENTRIES]
    books += [book_of([other for other in ENTRIES if other != entry], ("grey", "black"), True) for entry in ENTRIES]
    return books + random_books(60)
