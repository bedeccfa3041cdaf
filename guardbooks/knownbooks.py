"""Books after barriers that are known by a name."""

from guardbooks.books import plain_book, with_entry, with_made

BOTH = (0, 1)


def dijkstra(pieces):
    """What is written into a cell that is gone through is shaded."""
    return _guarded(plain_book(True, pieces), BOTH, _spent(pieces), "new")


def steele(pieces):
    """A cell that is gone through is gone through again when it is written to."""
    return _guarded(plain_book(True, pieces), BOTH, _spent(pieces), "again")


def yuasa(pieces):
    """Hands that were looked at shade what they overwrite."""
    return with_made(_guarded(plain_book(False, pieces), (1,), (0, 1, 2), "old"), 1, "black")


def baker(pieces):
    """Hands that were looked at shade what they read."""
    book = _guarded(plain_book(False, pieces), (0,), _spent(pieces), "new")
    for colour in (0, 1):
        book = with_entry(book, ("read", 1, colour))
    return with_made(book, 1, "black")


def hybrid(pieces):
    """What is overwritten is shaded, and what hands that were not looked at write as well."""
    book = _guarded(plain_book(False, pieces), BOTH, (0, 1), "old")
    book = _guarded(book, (0,), _spent(pieces), "new")
    return with_made(with_made(book, 0, "black"), 1, "black")


# A table of functions stands behind all of them.
KNOWN = {"baker": baker, "dijkstra": dijkstra, "hybrid": hybrid, "steele": steele, "yuasa": yuasa}


def known_book(name, pieces):
    """Returns the book that is known by this name, None if none is."""
    if name not in KNOWN:
        return None
    maker = KNOWN[name]
    return maker(pieces)


def _spent(pieces):
    # Field by field a grey cell may have fields that are gone through already.
    if pieces:
        return (1, 2)
    return (2,)


def _guarded(book, phases, colours, word):
    """Returns book with word in the guards of all these phases and colours as well."""
    guarded = book
    for phase in phases:
        for colour in colours:
            guarded = with_entry(guarded, ("write", phase, colour, word))
    return guarded
