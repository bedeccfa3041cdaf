"""What comes behind deeds, and which entries of a book do something in them."""

from guardbooks.bounds import MAX_DEEDS
from guardbooks.deeds import deed_error
from guardbooks.errors import Refused, TooMany
from guardbooks.kinds import replaced
from guardbooks.standings import colour_of


def after(book, standing, deed):
    """Returns the standing behind deed, any value; raises Refused if it can't be done."""
    behind, _ = moved(book, standing, deed)
    return behind


def led(book, standing, deeds):
    """Returns the standing behind all of deeds, done one behind another."""
    if len(deeds) > MAX_DEEDS:
        raise TooMany(MAX_DEEDS)
    behind = standing
    for deed in deeds:
        behind = after(book, behind, deed)
    return behind


def guards_asked(book, standing, deed):
    """Returns the ascending tuple of the entries of book that do something in deed, any value."""
    _, asked = moved(book, standing, deed)
    return asked


def shade(heap, marks, cells):
    """Shades each of cells in the list marks; None among these is no cell."""
    for cell in cells:
        if cell is not None and marks[cell] == "white":
            marks[cell] = 0 if heap[cell] else "black"


def go_through(heap, marks, cell, pieces):
    """Changes the list marks as the scan of a grey cell does: of its next field if pieces is True, else of all."""
    fields = heap[cell]
    gone = marks[cell] + 1
    marks[cell] = gone if pieces and gone < len(fields) else "black"
    shade(heap, marks, fields[gone - 1:gone] if pieces else fields)


# Each of the following returns the pair of the standing behind a deed and the entries that do something in it.


def _look(book, standing, deed):
    heap, marks, hands, looked = standing
    hand = deed[1]
    behind = list(marks)
    shade(heap, behind, hands[hand])
    return (heap, tuple(behind), hands, replaced(looked, (hand,), True)), ()


def _scan(book, standing, deed):
    heap, marks, hands, looked = standing
    behind = list(marks)
    go_through(heap, behind, deed[1], book[4])
    return (heap, tuple(behind), hands, looked), ()


def _drop(book, standing, deed):
    _, hand, room = deed
    return _with_room(standing, hand, room, None), ()


def _copy(book, standing, deed):
    _, hand, room, other = deed
    return _with_room(standing, hand, other, standing[2][hand][room]), ()


def _make(book, standing, deed):
    _, hand, room, many = deed
    cell = standing[1].index("free")
    phase = _phase(standing, hand)
    made = book[2][phase]
    heap, marks, hands, looked = _with_room(standing, hand, room, cell)
    heap = replaced(heap, (cell,), (None,) * many)
    behind = list(marks)
    behind[cell] = "black" if made == "black" else "white"
    if made == "grey":
        shade(heap, behind, (cell,))
    asked = () if made == "white" else (("make", phase),)
    return (heap, tuple(behind), hands, looked), asked


def _read(book, standing, deed):
    _, hand, room, field, other = deed
    cell = standing[2][hand][room]
    phase, colour = _phase(standing, hand), colour_of(standing, cell)
    named = standing[0][cell][field]
    heap, marks, hands, looked = _with_room(standing, hand, other, named)
    if not book[1][phase][colour] or not _is_white(marks, named):
        return (heap, marks, hands, looked), ()
    behind = list(marks)
    shade(heap, behind, (named,))
    return (heap, tuple(behind), hands, looked), (("read", phase, colour),)


def _write(book, standing, deed):
    heap, marks, hands, looked = standing
    _, hand, room, field, other = deed
    cell = hands[hand][room]
    phase, colour = _phase(standing, hand), colour_of(standing, cell)
    overwritten = heap[cell][field]
    written = None if other is None else hands[hand][other]
    heap = replaced(heap, (cell, field), written)
    guard = book[0][phase][colour]
    behind = list(marks)
    asked = []
    for word, named in (("old", overwritten), ("new", written)):
        if word in guard and _is_white(behind, named):
            shade(heap, behind, (named,))
            asked.append(("write", phase, colour, word))
    if "again" in guard and _is_white(behind, written) and behind[cell] not in ("white", 0):
        behind[cell] = 0
        asked.append(("write", phase, colour, "again"))
    return (heap, tuple(behind), hands, looked), tuple(sorted(asked))


# A table of functions stands behind all of them.
MOVES = {
    "look": _look, "scan": _scan, "drop": _drop, "copy": _copy, "make": _make, "read": _read, "write": _write}


def moved(book, standing, deed):
    """Returns the pair of what after and guards_asked tell of deed, any value."""
    if deed_error(standing, deed) is not None:
        raise Refused(deed)
    move = MOVES[deed[0]]
    return move(book, standing, deed)


def _phase(standing, hand):
    return 1 if standing[3][hand] else 0


def _with_room(standing, hand, room, cell):
    heap, marks, hands, looked = standing
    return (heap, marks, replaced(hands, (hand, room), cell), looked)


def _is_white(marks, cell):
    return cell is not None and marks[cell] == "white"
