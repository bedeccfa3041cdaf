"""Runs by which books that are not safe lose a cell."""

from guardbooks.ending import finished
from guardbooks.moving import led
from guardbooks.safety import is_closed, is_safe
from guardbooks.standings import start

# In all of these runs a white cell is hidden: named by nothing but the first field of a cell of two fields that is
# gone through so far that the write goes unnoticed, or held by a hand that was looked at alone.


def losing(book, hands):
    """Returns a run of book for so many hands that loses a cell, None if book is safe."""
    if is_safe(book, hands):
        return None
    heap, rooms, many, deeds = _plan(book, hands)
    # The further hands hold nothing, and are looked at in the end.
    rooms = rooms + ((None,),) * (hands - len(rooms))
    rest, _ = finished(book, led(book, start(heap, rooms, many), deeds))
    return (heap, rooms, many, deeds + rest)


def _plan(book, hands):
    """Returns the heap, the first hands, the number of free cells, and the deeds until a cell is hidden."""
    if not is_closed(book, hands):
        if hands > 1:
            return _hidden_by_another_hand(book)
        return _hidden_ahead_of_the_look(book)
    if book[2][1] == "white":
        return _made(book)
    return _read_and_let_go(book, hands)


def _hidden_by_another_hand(book):
    """A hand that was not looked at hides the cell 1 behind the cell 0, which the other hand's look led to."""
    deeds = (("look", 0),) + _scans(book, 0, 0) + (("write", 1, 0, 0, 1), ("drop", 1, 1))
    return (((None, None), ()), ((0,), (0, 1)), 0, deeds)


def _hidden_ahead_of_the_look(book):
    """One hand, which hides the cell 0 behind a cell that it greyed or blackened itself."""
    if book[1][0][0] or "new" in book[0][0][0] or "old" in book[0][0][0]:
        # It reads the cell 1 from the white cell 2, or writes it there once more: so it is overwritten, too.
        word = "read" if book[1][0][0] else "write"
        deeds = ((word, 0, 2, 0, 1),) + _scans(book, 0, 1) + _hiding(1, 0)
        return (((), (None, None), (1,)), ((0, 1, 2),), 0, deeds)
    if book[2][0] == "black" and _heeds_black(book, 0):
        # Only a cell that is half gone through will do: as one is written into a black one, one of them is grey.
        room, cell = (2, 1) if "new" in book[0][0][2] else (1, 2)
        deeds = (("make", 0, 1, 2), ("write", 0, 1, 0, 2)) + _scans(book, 0, cell) + _hiding(room, 0)
        return (((), (None, None)), ((0, None, 1),), 1, deeds)
    scans = () if book[2][0] == "black" else _scans(book, 0, 1)
    return (((),), ((0, None),), 1, (("make", 0, 1, 2),) + scans + _hiding(1, 0))


def _made(book):
    """A hand that was looked at makes a white cell."""
    if not book[3]:
        return ((), ((None,),), 1, (("look", 0), ("make", 0, 0, 0)))
    deeds = (("look", 0),) + _scans(book, 1, 0) + (("make", 0, 1, 0),) + _hiding(0, 1)
    return (((None, None),), ((0, None),), 1, deeds)


def _read_and_let_go(book, hands):
    """A hand that was looked at reads the cell 1 from the cell 2, whose field is overwritten then."""
    if "old" in book[0][1][1] and (hands == 1 or "old" in book[0][0][1]):
        # What a grey cell named is shaded: so the cell 2 has to be white, and the grey cell 3 names it.
        heap, rooms = ((None, None), (), (1,), (2,)), ((3, None, 0),)
        deeds = (("look", 0), ("read", 0, 0, 0, 0))
        guard = book[0][1][0]
    else:
        heap, rooms = ((None, None), (), (1,)), ((2, None, 0),)
        deeds = (("look", 0),)
        guard = book[0][1][1]
    writer = 0
    if "old" in guard:
        # A hand that was not looked at yet overwrites it unnoticed.
        writer = 1
        rooms = rooms + ((2,),)
    deeds = deeds + (("read", 0, 0, 0, 1), ("write", writer, 0, 0, None))
    if book[3]:
        deeds = deeds + _scans(book, 1, 0) + _hiding(2, 1)
    return (heap, rooms, 0, deeds)


def _hiding(room, hidden):
    """The deeds by which the first hand hides what one room holds behind what the other one holds."""
    return (("write", 0, room, 0, hidden), ("drop", 0, hidden))


def _scans(book, phase, cell):
    """The scans until a hand of this phase, for which book doesn't insert, may write into the first field unnoticed."""
    # The cell has two fields, and is grey from the first one on.
    if book[4] and not _heeds_black(book, phase):
        return (("scan", cell),) * 2
    return (("scan", cell),)


def _heeds_black(book, phase):
    guard = book[0][phase][2]
    return "new" in guard or "again" in guard
