"""Shells: a book and a yard that are kept, and changed and asked for by lines."""

from guardbooks.books import entries, plain_book, with_entry, without
from guardbooks.booktexts import entry_text, read_entry
from guardbooks.bounds import MAX_HANDS
from guardbooks.deedtexts import deed_in, deed_text, told_by_line
from guardbooks.ending import floating, lost
from guardbooks.errors import GuardError, Unfit
from guardbooks.kinds import number_in
from guardbooks.knownbooks import known_book
from guardbooks.reaching import reached
from guardbooks.safety import ways
from guardbooks.standingtexts import read_standing, standing_text
from guardbooks.yards import Yard

OK = "ok"
WHAT = "what"
NONE = "none"
FIGURES = 3


class Shell:
    """Keeps a book, and a yard or none; each line is answered by a string."""

    def __init__(self):
        self._book = plain_book(False, False)
        self._yard = None

    def say(self, line):
        """Returns the answer to line, any value."""
        if not isinstance(line, str):
            return WHAT
        try:
            return self._answer(line)
        except GuardError as error:
            return "error " + type(error).__name__

    def _answer(self, line):
        word, blank, rest = line.partition(" ")
        if not blank:
            return self._answer_to_word(word)
        if word == "yard":
            return self._begin(rest)
        if word == "safe":
            return self._safe(rest)
        if word in ("book", "with", "without"):
            return self._keep(_changed(self._book, word, rest))
        return self._edit(line)

    def _answer_to_word(self, word):
        _, _, _, last, pieces = self._book
        if word == "last":
            return self._keep(self._book[:3] + (not last, pieces))
        if word == "pieces":
            return self._keep(self._book[:4] + (not pieces,))
        if word == "entries":
            return "; ".join([entry_text(entry) for entry in entries(self._book)]) or NONE
        if word not in YARD_WORDS:
            return WHAT
        if self._yard is None:
            return "no yard"
        answer = YARD_WORDS[word]
        return answer(self._yard)

    def _keep(self, book):
        if book is None:
            return WHAT
        self._book = book
        return OK

    def _safe(self, text):
        hands = number_in(text, FIGURES)
        if hands is None:
            return WHAT
        if not 1 <= hands <= MAX_HANDS:
            raise Unfit()
        return " ".join(ways(self._book, hands)) or NONE

    def _begin(self, text):
        """A new yard takes the place of the elder one: an empty one, or that of a standing."""
        numbers = [number_in(word, FIGURES) for word in text.split(" ")]
        if len(numbers) == 3 and None not in numbers:
            hands, rooms, many = numbers
            yard = Yard(self._book, (), ((None,) * rooms,) * hands, many)
        else:
            heap, hands, many = _begun(read_standing(text))
            yard = Yard(self._book, heap, hands, many)
        self._yard = yard
        return _told(yard.version)

    def _edit(self, line):
        edit = told_by_line(line, {"mark": 1}, FIGURES) or deed_in(line)
        if edit is None:
            return WHAT
        if self._yard is None:
            return "no yard"
        return _told(self._yard.edit(edit))


def _changed(book, word, text):
    """Returns the book that is told by a word and what stands behind it, None if none is."""
    if word == "with":
        return with_entry(book, read_entry(text))
    if word == "without":
        return without(book, read_entry(text))
    name, blank, rest = text.partition(" ")
    pieces = rest == "pieces"
    if blank and not pieces:
        return None
    return plain_book(False, pieces) if name == "plain" else known_book(name, pieces)


def _begun(standing):
    """Returns the heap, the hands and the number of free cells by which start makes standing; raises Unfit."""
    heap, marks, hands, looked = standing
    many = marks.count("free")
    used = len(heap) - many
    if any(looked) or marks != ("white",) * used + ("free",) * many:
        raise Unfit()
    return heap[:used], hands, many


def _told(version):
    return "version " + str(version)


def _row(cells):
    return " ".join([str(cell) for cell in cells]) or NONE


# Each of the following returns the answer that a yard gives to a word.


def _show(yard):
    return standing_text(yard.standing)


def _version(yard):
    return str(yard.version)


def _cycles(yard):
    return str(yard.cycles)


def _due(yard):
    return deed_text(yard.due)


def _freed(yard):
    return _row(yard.freed)


def _reached(yard):
    return _row(reached(yard.standing))


def _lost(yard):
    return _row(lost(yard.book, yard.standing))


def _floating(yard):
    return _row(floating(yard.book, yard.standing))


def _sweep(yard):
    return _told(yard.sweep())


def _cycle(yard):
    return _told(yard.cycle())


def _undo(yard):
    return _told(yard.undo())


# A table of functions stands behind all of them.
YARD_WORDS = {
    "show": _show, "version": _version, "cycles": _cycles, "due": _due, "freed": _freed, "reached": _reached,
    "lost": _lost, "floating": _floating, "sweep": _sweep, "cycle": _cycle, "undo": _undo}
