"""Guard books: tables of what a hand has to heed, and the entries that they are made of."""

from guardbooks.kinds import is_integer, is_tuple_of, replaced

WORDS = ("again", "new", "old")
GUARDS = (
    (), ("again",), ("again", "new"), ("again", "new", "old"), ("again", "old"), ("new",), ("new", "old"), ("old",))
MADE = ("white", "grey", "black")
PARTS = {"write": 0, "read": 1, "make": 2, "last": 3}

# All entries, ascending. They stand here written out, as they are asked for all the time.
ENTRIES = (
    ("last",), ("make", 0), ("make", 1),
    ("read", 0, 0), ("read", 0, 1), ("read", 0, 2), ("read", 1, 0), ("read", 1, 1), ("read", 1, 2),
    ("write", 0, 0, "again"), ("write", 0, 0, "new"), ("write", 0, 0, "old"),
    ("write", 0, 1, "again"), ("write", 0, 1, "new"), ("write", 0, 1, "old"),
    ("write", 0, 2, "again"), ("write", 0, 2, "new"), ("write", 0, 2, "old"),
    ("write", 1, 0, "again"), ("write", 1, 0, "new"), ("write", 1, 0, "old"),
    ("write", 1, 1, "again"), ("write", 1, 1, "new"), ("write", 1, 1, "old"),
    ("write", 1, 2, "again"), ("write", 1, 2, "new"), ("write", 1, 2, "old"))


def book_error(value):
    """Returns None if value, any value, is a book, otherwise the first error that applies."""
    if not _has_form(value):
        return "form"
    writes, reads, makes, last, pieces = value
    for phase in range(2):
        for colour in range(3):
            if writes[phase][colour] not in GUARDS:
                return ("write", phase, colour)
    for phase in range(2):
        for colour in range(3):
            if not isinstance(reads[phase][colour], bool):
                return ("read", phase, colour)
    for phase in range(2):
        if makes[phase] not in MADE:
            return ("make", phase)
    if not isinstance(last, bool):
        return "last"
    if not isinstance(pieces, bool):
        return "pieces"
    return None


def _has_form(value):
    if not is_tuple_of(value, 5, 5):
        return False
    return _is_pair_of_triples(value[0]) and _is_pair_of_triples(value[1]) and is_tuple_of(value[2], 2, 2)


def _is_pair_of_triples(value):
    return is_tuple_of(value, 2, 2) and is_tuple_of(value[0], 3, 3) and is_tuple_of(value[1], 3, 3)


def plain_book(last, pieces):
    """Returns the book that guards nothing, with these two items."""
    return ((((), (), ()),) * 2, ((False, False, False),) * 2, ("white", "white"), last, pieces)


def is_entry(value):
    """Tells whether value, any value, is an entry."""
    if not isinstance(value, tuple):
        return False
    # True and False are equal to 1 and 0, but no phases or colours.
    for item in value:
        if not isinstance(item, str) and not is_integer(item):
            return False
    return value in ENTRIES


def entries(book):
    """Returns the ascending tuple of the entries that book has."""
    writes, reads, makes, last, _ = book
    told = [("last",)] if last else []
    for phase in range(2):
        if makes[phase] != "white":
            told.append(("make", phase))
    for phase in range(2):
        for colour in range(3):
            if reads[phase][colour]:
                told.append(("read", phase, colour))
    for phase in range(2):
        for colour in range(3):
            for word in writes[phase][colour]:
                told.append(("write", phase, colour, word))
    return tuple(told)


def with_entry(book, entry):
    """Returns book with entry as well; for what is made with "black", if it is "white"."""
    if has_entry(book, entry):
        return book
    if entry[0] == "write":
        guard = _item_at(book, _places_of(entry))
        return replaced(book, _places_of(entry), tuple(sorted(guard + (entry[3],))))
    if entry[0] == "make":
        return with_made(book, entry[1], "black")
    return replaced(book, _places_of(entry), True)


def with_entries(book, told):
    """Returns book with all entries told as well."""
    more = book
    for entry in told:
        more = with_entry(more, entry)
    return more


def without(book, entry):
    """Returns book without entry; for what is made with "white"."""
    if entry[0] == "write":
        guard = _item_at(book, _places_of(entry))
        return replaced(book, _places_of(entry), tuple([word for word in guard if word != entry[3]]))
    if entry[0] == "make":
        return with_made(book, entry[1], "white")
    return replaced(book, _places_of(entry), False)


def with_made(book, phase, colour):
    """Returns book with colour as what a hand of this phase makes."""
    return replaced(book, (PARTS["make"], phase), colour)


def has_entry(book, entry):
    """Tells whether book has entry."""
    item = _item_at(book, _places_of(entry))
    if entry[0] == "write":
        return entry[3] in item
    if entry[0] == "make":
        return item != "white"
    return item


def _places_of(entry):
    """The places, one within another, that lead to the item of a book of which entry tells."""
    return (PARTS[entry[0]],) + entry[1:3]


def _item_at(row, places):
    item = row
    for place in places:
        item = item[place]
    return item
