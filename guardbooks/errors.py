"""The errors of this package: all of them stand directly under GuardError."""


class GuardError(ValueError):
    """What each error of this package is."""


class Unfit(GuardError):
    """What was asked for does not fit what was handed in."""


class BadHeap(GuardError):
    """A value is no heap; error is what heap_error tells of it."""

    def __init__(self, error):
        self.error = error


class BadStanding(GuardError):
    """A value is no standing; error is what standing_error tells of it."""

    def __init__(self, error):
        self.error = error


class BadBook(GuardError):
    """A value is no book; error is what book_error tells of it."""

    def __init__(self, error):
        self.error = error


class BadText(GuardError):
    """A value is no such text; place is that of the first line that is wrong."""

    def __init__(self, place):
        self.place = place


class BadLog(GuardError):
    """A log cannot be done; place is that of the first edit that is wrong."""

    def __init__(self, place):
        self.place = place


class Refused(GuardError):
    """A deed cannot be done; deed is what was handed in."""

    def __init__(self, deed):
        self.deed = deed


class Lost(GuardError):
    """A sweep would free cells that hands come to; cells tells which."""

    def __init__(self, cells):
        self.cells = cells


class TooMany(GuardError):
    """There are more of something than limit."""

    def __init__(self, limit):
        self.limit = limit


class TooManyEdits(GuardError):
    """A yard has as many edits as it may have."""


class NothingToUndo(GuardError):
    """A yard has no edit that could be undone."""
