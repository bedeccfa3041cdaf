"""Texts of entries and of books."""

from guardbooks.books import ENTRIES, entries, plain_book, with_entry, with_made
from guardbooks.errors import BadText

PHASE_WORDS = ("unlooked", "looked")
COLOUR_WORDS = ("white", "grey", "black")
PIECES = "pieces"


def entry_text(entry):
    """Returns the text of entry."""
    words = [entry[0]]
    if len(entry) > 1:
        words.append(PHASE_WORDS[entry[1]])
    if len(entry) > 2:
        words.append(COLOUR_WORDS[entry[2]])
    if len(entry) > 3:
        words.append(entry[3])
    return " ".join(words)


def read_entry(value):
    """Returns the entry of which value, any value, is the text."""
    for entry in ENTRIES:
        if entry_text(entry) == value:
            return entry
    raise BadText(0)


def book_text(book):
    """Returns the text of book: its lines, with a line feed behind each."""
    lines = [_line(entry, book[2]) for entry in entries(book)]
    if book[4]:
        lines.append(PIECES)
    return "".join([line + "\n" for line in lines])


def _line(entry, makes):
    if entry[0] == "make":
        return entry_text(entry) + " " + makes[entry[1]]
    return entry_text(entry)


def read_book(value):
    """Returns the book that has just the lines of value, any value, in whichever order they stand."""
    if not isinstance(value, str):
        raise BadText(0)
    meanings = _meanings()
    told = {}
    for place, line in enumerate(lines_of(value)):
        if line not in meanings:
            raise BadText(place)
        entry, made = meanings[line]
        if entry in told:
            raise BadText(place)
        told[entry] = made
    return _book_of(told)


def lines_of(text):
    """What stands ahead of each line feed, and what stands behind the last one if that is not empty."""
    lines = text.split("\n")
    if lines[-1] == "":
        lines.pop()
    return lines


def _meanings():
    """Gives for each line of any book the pair of the entry that it tells and what is made by it, if that is told."""
    meanings = {PIECES: (PIECES, None)}
    for entry in ENTRIES:
        if entry[0] == "make":
            for colour in ("grey", "black"):
                meanings[entry_text(entry) + " " + colour] = (entry, colour)
        else:
            meanings[entry_text(entry)] = (entry, None)
    return meanings


def _book_of(told):
    """Returns the book of these entries, PIECES perhaps among them; told gives what is made by each, or None."""
    book = plain_book(False, PIECES in told)
    for entry, made in told.items():
        if made is not None:
            book = with_made(book, entry[1], made)
        elif entry != PIECES:
            book = with_entry(book, entry)
    return book
