"""Yards: heaps that work, with hands, a marker, and sweeps now and then."""

from guardbooks.books import book_error
from guardbooks.bounds import MAX_DEEDS, MAX_EDITS
from guardbooks.ending import finished, gone_on, is_over, next_deed
from guardbooks.errors import BadBook, NothingToUndo, TooManyEdits, Unfit
from guardbooks.kinds import is_number_below
from guardbooks.moving import after
from guardbooks.standings import start
from guardbooks.sweeping import freed_and_swept


class Yard:
    """A heap, hands and a marker that keep to a book, with all edits that led here."""

    def __init__(self, book, heap, rooms, many):
        error = book_error(book)
        if error is not None:
            raise BadBook(error)
        self._book = book
        self._began = (heap, rooms, many)
        self._log = ()
        # Ahead of the first edit, and behind each one: the standing, how many sweeps, what the last of these freed.
        self._past = [(start(heap, rooms, many), 0, ())]

    @property
    def book(self):
        """The book."""
        return self._book

    @property
    def standing(self):
        """The standing as it is."""
        return self._past[-1][0]

    @property
    def log(self):
        """The tuple of the edits that stand."""
        return self._log

    @property
    def version(self):
        """How many edits stand."""
        return len(self._log)

    @property
    def cycles(self):
        """How many sweeps stand."""
        return self._past[-1][1]

    @property
    def freed(self):
        """The ascending tuple of the cells that the last sweep freed."""
        return self._past[-1][2]

    @property
    def due(self):
        """The marker's next deed, or ("sweep",)."""
        deed = next_deed(self._past[-1][0])
        return ("sweep",) if deed is None else deed

    def make(self, h, i, n):
        """A hand makes a cell."""
        return self._do(("make", h, i, n))

    def read(self, h, i, f, j):
        """A hand reads a field."""
        return self._do(("read", h, i, f, j))

    def write(self, h, i, f, j):
        """A hand writes to a field."""
        return self._do(("write", h, i, f, j))

    def drop(self, h, i):
        """A hand lets go of what a room has."""
        return self._do(("drop", h, i))

    def copy(self, h, i, j):
        """A hand puts into a room what another one has."""
        return self._do(("copy", h, i, j))

    def look(self, h):
        """The marker looks at a hand."""
        return self._do(("look", h))

    def scan(self, c):
        """The marker goes through a cell."""
        return self._do(("scan", c))

    def mark(self, many):
        """The marker does so many deeds that are due, fewer if a sweep is due ahead."""
        standing = self.standing
        if not is_number_below(many, MAX_DEEDS + 1) or many == 0 or is_over(standing):
            raise Unfit()
        _, behind = gone_on(self._book, standing, many)
        return self._stand(("mark", many), behind, self.cycles, self.freed)

    def sweep(self):
        """What stayed white is freed."""
        return self._free(("sweep",), self.standing)

    def cycle(self):
        """The marker does all that is due, then what stayed white is freed."""
        _, end = finished(self._book, self.standing)
        return self._free(("cycle",), end)

    def edit(self, told):
        """Does the edit that stands in a log as told."""
        if told[0] == "mark":
            return self.mark(told[1])
        if told[0] == "sweep":
            return self.sweep()
        if told[0] == "cycle":
            return self.cycle()
        return self._do(told)

    def _do(self, deed):
        behind = after(self._book, self.standing, deed)
        return self._stand(deed, behind, self.cycles, self.freed)

    def _free(self, edit, end):
        cells, behind = freed_and_swept(self._book, end)
        return self._stand(edit, behind, self.cycles + 1, cells)

    def _stand(self, edit, standing, cycles, cells):
        """Lets edit stand, with what is behind it; returns the version."""
        # Whatever is wrong with the edit itself was raised ahead of this.
        if len(self._log) == MAX_EDITS:
            raise TooManyEdits()
        self._past.append((standing, cycles, cells))
        self._log = self._log + (edit,)
        return len(self._log)

    def undo(self):
        """Takes back the last edit that stands; returns the version then."""
        if not self._log:
            raise NothingToUndo()
        self._past.pop()
        self._log = self._log[:-1]
        return len(self._log)

    def twin(self):
        """Returns a yard that began likewise and has the same log."""
        heap, rooms, many = self._began
        other = Yard(self._book, heap, rooms, many)
        other._log = self._log
        other._past = list(self._past)
        return other

    def __eq__(self, other):
        if not isinstance(other, Yard):
            return False
        return (self.book, self.log, self.standing) == (other.book, other.log, other.standing)
