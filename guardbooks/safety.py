"""Safe books: told by a few entries, in four ways."""

from guardbooks.books import entries

WAYS = ("child", "last", "old", "read")


def starts_early(book):
    """Tells whether a hand that was not looked at may grey or blacken something by this book, all being white."""
    writes, reads, makes, _, _ = book
    return "new" in writes[0][0] or "old" in writes[0][0] or reads[0][0] or makes[0] != "white"


def ways(book, hands):
    """Returns the ascending tuple of the ways in which book is safe for so many hands."""
    if not is_closed(book, hands):
        return ()
    return tuple([way for way in WAYS if not lacking(book, wants(way, hands, book[4]))])


def is_safe(book, hands):
    """Tells whether no run with so many hands ever loses a cell by book."""
    return len(ways(book, hands)) > 0


def is_closed(book, hands):
    """Tells whether hands that were not looked at can bring no white cell behind what is gone through."""
    return inserts(book, 0) or (hands == 1 and not starts_early(book))


def inserts(book, phase):
    """Tells whether what a hand of this phase writes into fields that are gone through is heeded."""
    return not lacking(book, inserting(phase, book[4]))


def inserting(phase, pieces):
    """What inserting wants: rows of entries, of each of which one at least has to be there."""
    # Field by field a grey cell may have fields that are gone through already.
    colours = (1, 2) if pieces else (2,)
    return [(("write", phase, colour, "again"), ("write", phase, colour, "new")) for colour in colours]


def wants(way, hands, pieces):
    """What way wants of a closed book: rows of entries, of each of which one at least has to be there."""
    if way == "last":
        return [(("last",),)] + inserting(1, pieces)
    # With several hands some may not be looked at yet while others are: they may not break what these rely on.
    phases = (1,) if hands == 1 else (0, 1)
    told = [("make", 1)]
    if way == "read":
        told = told + [("read", 1, 1)]
    elif way == "child":
        told = told + [("read", 1, 0)] + [("write", phase, 1, "old") for phase in phases]
    else:
        told = told + [("write", phase, colour, "old") for phase in phases for colour in (0, 1)]
    return [(entry,) for entry in told]


def lacking(book, rows):
    """Returns those rows of entries of which book has none."""
    had = entries(book)
    return [row for row in rows if not any([entry in had for entry in row])]
