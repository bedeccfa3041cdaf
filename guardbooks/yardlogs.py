"""Logs of yards: their texts, and yards that come of them."""

from guardbooks.booktexts import lines_of
from guardbooks.deeds import NUMBERS
from guardbooks.deedtexts import deed_text, told_by_line
from guardbooks.errors import BadLog, BadText, GuardError
from guardbooks.yards import Yard


def log_text(log):
    """Returns the text of log: a line for each edit, with a line feed behind it."""
    return "".join([deed_text(edit) + "\n" for edit in log])


def read_log(value):
    """Returns the tuple of the edits of which the lines of value, any value, are the texts."""
    if not isinstance(value, str):
        raise BadText(0)
    arguments = _arguments()
    edits = [told_by_line(line, arguments, 3) for line in lines_of(value)]
    for place, edit in enumerate(edits):
        if edit is None:
            raise BadText(place)
    return tuple(edits)


def yard_behind(book, heap, rooms, many, value):
    """Returns a new yard on which the edits of value, any value, were done."""
    yard = Yard(book, heap, rooms, many)
    if not isinstance(value, tuple):
        raise BadLog(0)
    for place, item in enumerate(value):
        if not _is_edit(item):
            raise BadLog(place)
        try:
            yard.edit(item)
        except GuardError:
            raise BadLog(place)
    return yard


def _arguments():
    """Gives for the word of each edit how many arguments it has."""
    arguments = dict(NUMBERS)
    arguments["mark"] = 1
    arguments["sweep"] = 0
    arguments["cycle"] = 0
    return arguments


def _is_edit(value):
    """Tells whether value is a tuple of the word of an edit and as many arguments as it has."""
    if not isinstance(value, tuple) or not value or not isinstance(value[0], str):
        return False
    return _arguments().get(value[0]) == len(value) - 1
