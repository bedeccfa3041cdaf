"""Deeds: what the marker and the hands do, one at a time."""

from guardbooks.bounds import MAX_FIELDS
from guardbooks.kinds import is_integer, is_tuple_of

# How many numbers stand behind each word.
NUMBERS = {"look": 1, "scan": 1, "drop": 2, "copy": 3, "make": 3, "read": 4, "write": 4}


def deed_error(standing, value):
    """Returns None if value, any value, is a deed that can be done in standing, otherwise the first error."""
    if not _is_deed(value):
        return "form"
    if value[0] == "scan":
        return _scan_error(standing[1], value[1])
    _, _, hands, looked = standing
    hand = value[1]
    if hand >= len(hands):
        return "hand"
    if value[0] == "look":
        return "closed" if looked[hand] else None
    return _room_error(standing, value)


def _is_deed(value):
    """Tells whether value has the form of a deed, whether it can be done or not."""
    if not is_tuple_of(value, 2, 5) or not isinstance(value[0], str):
        return False
    if len(value) - 1 != NUMBERS.get(value[0]):
        return False
    numbers = value[1:]
    # What is written may be nothing.
    if value[0] == "write" and numbers[3] is None:
        numbers = numbers[:3]
    return all([is_integer(number) and number >= 0 for number in numbers])


def _scan_error(marks, cell):
    if cell >= len(marks):
        return "cell"
    if not is_integer(marks[cell]):
        return "closed"
    return None


def _room_error(standing, deed):
    """Returns the first error of a deed that tells of rooms of a hand that is there."""
    heap, marks, hands, _ = standing
    rooms = hands[deed[1]]
    for room in _rooms_told(deed):
        if room is not None and room >= len(rooms):
            return "room"
    if deed[0] == "make":
        return _make_error(marks, deed[3])
    if deed[0] in ("read", "write"):
        return _field_error(heap, rooms[deed[2]], deed[3])
    return None


def _rooms_told(deed):
    if deed[0] == "copy":
        return deed[2:]
    if deed[0] in ("read", "write"):
        return (deed[2], deed[4])
    return (deed[2],)


def _make_error(marks, many):
    if many > MAX_FIELDS:
        return "fields"
    if "free" not in marks:
        return "closed"
    return None


def _field_error(heap, cell, field):
    if cell is None:
        return "empty"
    if field >= len(heap[cell]):
        return "field"
    return None
