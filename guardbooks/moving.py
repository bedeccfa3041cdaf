"""What comes behind deeds, and which entries of a book do something in them."""

from guardbooks.bounds import MAX_DEEDS
from guardbooks.deeds import deed_error
from guardbooks.errors import Refused, TooMany
from guardbooks.kinds import replaced
from guardbooks.standings import colour_of


def after(book, standing, deed):
    """Returns the standing behind deed, any value; raises Refused if it can't be done."""
    behind, _ = _moved(book, standing, deed)
    return behind


def led(book, standing, deeds):
    """Returns the standing behind all of deeds, done one behind another."""
    if len(deeds) > MAX_DEEDS:
        raise TooMany(MAX_DEEDS)
    behind = standing
    for deed in deeds:
        behind = after(book, behind, deed)
    return behind


def guards_asked(book, standing, deed):
    """Returns the ascending tuple of the entries of book that do something in deed, any value."""
    _, asked = _moved(book, standing, deed)
    return asked


def shaded(heap, marks, cells):
    """Returns marks with each of cells shaded; None among these is no cell."""
    behind = list(marks)
    for cell in cells:
        if cell is not None and behind[cell] == "white":
            behind[cell] = 0 if heap[cell] else "black"
    return tuple(behind)


# Each of the following returns the pair of the standing behind a deed and the entries that do something in it.


def _look(book, standing, deed):
    heap, marks, hands, looked = standing
    hand = deed[1]
    return (heap, shaded(heap, marks, hands[hand]), hands, replaced(looked, (hand,), True)), ()


def _scan(book, standing, deed):
    heap, marks, hands, looked = standing
    cell = deed[1]
    fields = heap[cell]
    mark = "black"
    if book[4]:
        gone = marks[cell] + 1
        if gone < len(fields):
            mark = gone
        fields = fields[gone - 1:gone]
    return (heap, shaded(heap, replaced(marks, (cell,), mark), fields), hands, looked), ()


def _drop(book, standing, deed):
    _, hand, room = deed
    return _with_room(standing, hand, room, None), ()


def _copy(book, standing, deed):
    _, hand, room, other = deed
    return _with_room(standing, hand, other, standing[2][hand][room]), ()


def _make(book, standing, deed):
    _, hand, room, many = deed
    cell = standing[1].index("free")
    phase = _phase(standing, hand)
    made = book[2][phase]
    heap, marks, hands, looked = _with_room(standing, hand, room, cell)
    heap = replaced(heap, (cell,), (None,) * many)
    marks = replaced(marks, (cell,), "black" if made == "black" else "white")
    if made == "grey":
        marks = shaded(heap, marks, (cell,))
    asked = () if made == "white" else (("make", phase),)
    return (heap, marks, hands, looked), asked


def _read(book, standing, deed):
    _, hand, room, field, other = deed
    cell = standing[2][hand][room]
    phase, colour = _phase(standing, hand), colour_of(standing, cell)
    named = standing[0][cell][field]
    heap, marks, hands, looked = _with_room(standing, hand, other, named)
    asked = ()
    if book[1][phase][colour]:
        behind = shaded(heap, marks, (named,))
        if behind != marks:
            asked = (("read", phase, colour),)
        marks = behind
    return (heap, marks, hands, looked), asked


def _write(book, standing, deed):
    heap, marks, hands, looked = standing
    _, hand, room, field, other = deed
    cell = hands[hand][room]
    phase, colour = _phase(standing, hand), colour_of(standing, cell)
    overwritten = heap[cell][field]
    written = None if other is None else hands[hand][other]
    heap = replaced(heap, (cell, field), written)
    asked = []
    for word in ("old", "new", "again"):
        if word in book[0][phase][colour]:
            if word == "again":
                behind = _led_back(marks, cell, written)
            else:
                behind = shaded(heap, marks, (overwritten if word == "old" else written,))
            if behind != marks:
                asked.append(("write", phase, colour, word))
            marks = behind
    return (heap, marks, hands, looked), tuple(sorted(asked))


# A table of functions stands behind all of them.
MOVES = {
    "look": _look, "scan": _scan, "drop": _drop, "copy": _copy, "make": _make, "read": _read, "write": _write}


def _moved(book, standing, deed):
    if deed_error(standing, deed) is not None:
        raise Refused(deed)
    move = MOVES[deed[0]]
    return move(book, standing, deed)


def _phase(standing, hand):
    return 1 if standing[3][hand] else 0


def _with_room(standing, hand, room, cell):
    heap, marks, hands, looked = standing
    return (heap, marks, replaced(hands, (hand, room), cell), looked)


def _led_back(marks, cell, written):
    """Returns marks with the cell grey from its first field on, if it is not white and what it names is."""
    if marks[cell] != "white" and written is not None and marks[written] == "white":
        return replaced(marks, (cell,), 0)
    return marks
