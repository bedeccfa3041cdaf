"""Safe books: told by a few entries, in four ways."""

from guardbooks.books import has_entry

WAYS = ("child", "last", "old", "read")


def starts_early(book):
    """Tells whether a hand that was not looked at may grey or blacken something by this book, all being white."""
    writes, reads, makes, _, _ = book
    return "new" in writes[0][0] or "old" in writes[0][0] or reads[0][0] or makes[0] != "white"


def ways(book, hands):
    """Returns the ascending tuple of the ways in which book is safe for so many hands."""
    if not is_closed(book, hands):
        return ()
    _, reads, makes, last, _ = book
    found = []
    # What hands that were looked at make is not white in all ways but "last".
    made = makes[1] != "white"
    greys = made and _heeds_old(book, 1, hands)
    if greys and reads[1][0]:
        found.append("child")
    if last and inserts(book, 1):
        found.append("last")
    if greys and _heeds_old(book, 0, hands):
        found.append("old")
    if made and reads[1][1]:
        found.append("read")
    return tuple(found)


def is_safe(book, hands):
    """Tells whether no run with so many hands ever loses a cell by book."""
    return len(ways(book, hands)) > 0


def is_closed(book, hands):
    """Tells whether hands that were not looked at can bring no white cell behind what is gone through."""
    return inserts(book, 0) or (hands == 1 and not starts_early(book))


def inserts(book, phase):
    """Tells whether what a hand of this phase writes into fields that are gone through is heeded."""
    _, grey, black = book[0][phase]
    # Field by field a grey cell may have fields that are gone through already.
    return _heeds_new(black) and (not book[4] or _heeds_new(grey))


def _heeds_new(guard):
    return "new" in guard or "again" in guard


def _heeds_old(book, colour, hands):
    """Tells whether what is overwritten in cells of this colour is shaded while a looked-at hand relies on it."""
    ahead, behind = book[0]
    # With several hands some may not be looked at yet while others are: they may not break what these rely on.
    return "old" in behind[colour] and (hands == 1 or "old" in ahead[colour])


# The same is told as rows of entries, of each of which one at least has to be there, for those who look for books.


def inserting(phase, pieces):
    """Returns the rows that inserting wants."""
    colours = (1, 2) if pieces else (2,)
    return [(("write", phase, colour, "again"), ("write", phase, colour, "new")) for colour in colours]


def wants(way, hands, pieces):
    """Returns the rows that way wants of a closed book."""
    if way == "last":
        return [(("last",),)] + inserting(1, pieces)
    phases = (1,) if hands == 1 else (0, 1)
    told = [("make", 1)]
    if way == "read":
        told = told + [("read", 1, 1)]
    elif way == "child":
        told = told + [("read", 1, 0)] + [("write", phase, 1, "old") for phase in phases]
    else:
        told = told + [("write", phase, colour, "old") for phase in phases for colour in (0, 1)]
    return [(entry,) for entry in told]


def lacking(book, rows):
    """Returns those rows of which book has no entry."""
    return [row for row in rows if not any([has_entry(book, entry) for entry in row])]
