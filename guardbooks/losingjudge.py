"""Whether a value is a run that loses a cell."""

from guardbooks.bounds import MAX_DEEDS
from guardbooks.deeds import deed_error
from guardbooks.ending import is_over, lost
from guardbooks.errors import BadHeap, BadStanding, Unfit
from guardbooks.kinds import is_tuple_of
from guardbooks.moving import after
from guardbooks.standings import start


def losing_error(book, hands, value):
    """Returns None if value, any value, is a losing run of book for so many hands, otherwise the first error."""
    if not is_tuple_of(value, 4, 4) or not isinstance(value[3], tuple):
        return "form"
    heap, rooms, many, deeds = value
    try:
        standing = start(heap, rooms, many)
    except (BadHeap, BadStanding, Unfit):
        return "start"
    if len(rooms) != hands:
        return "hands"
    if len(deeds) > MAX_DEEDS:
        return "many"
    for place, deed in enumerate(deeds):
        if deed_error(standing, deed) is not None:
            return ("deed", place)
        standing = after(book, standing, deed)
    if not is_over(standing):
        return "over"
    if not lost(book, standing):
        return "kept"
    return None
