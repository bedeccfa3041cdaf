"""The end of a marking: how it comes, and what is lost or kept for nothing then."""

from guardbooks.bounds import MAX_DEEDS
from guardbooks.errors import Unfit
from guardbooks.moving import go_through, shade
from guardbooks.reaching import reached


def is_over(standing):
    """Tells whether every hand was looked at and no cell is grey."""
    return all(standing[3]) and _least_grey(standing[1]) is None


def next_scans(standing):
    """Returns the ascending tuple of all grey cells."""
    return tuple([cell for cell, mark in enumerate(standing[1]) if isinstance(mark, int)])


def cells_marked(standing, mark):
    """Returns the ascending tuple of all cells with this mark."""
    return tuple([cell for cell, other in enumerate(standing[1]) if other == mark])


def next_deed(standing):
    """Returns the deed by which the marking goes on if the hands do nothing, None if it is over."""
    for hand, was in enumerate(standing[3]):
        if not was:
            return ("look", hand)
    cell = _least_grey(standing[1])
    return None if cell is None else ("scan", cell)


def finished(book, standing):
    """Returns the pair of the deeds by which the marking ends if the hands do nothing, and the standing behind."""
    # An end comes long ahead of so many.
    return gone_on(book, standing, MAX_DEEDS)


def gone_on(book, standing, most):
    """Returns the pair of the next deeds of the marker, as many as told but none behind the end, and what is behind."""
    heap, marks, hands, looked = standing
    behind, seen = list(marks), list(looked)
    deeds = []
    for hand, was in enumerate(looked):
        if not was and len(deeds) < most:
            deeds.append(("look", hand))
            shade(heap, behind, hands[hand])
            seen[hand] = True
    cell = _least_grey(behind)
    while cell is not None and len(deeds) < most:
        deeds.append(("scan", cell))
        go_through(heap, behind, cell, book[4])
        cell = _least_grey(behind)
    return (tuple(deeds), (heap, tuple(behind), hands, tuple(seen)))


def _least_grey(marks):
    for cell, mark in enumerate(marks):
        if isinstance(mark, int):
            return cell
    return None


def last_look(book, standing):
    """Returns the standing behind the last look, standing itself if book has none."""
    if not is_over(standing):
        raise Unfit()
    if not book[3]:
        return standing
    heap, marks, hands, looked = standing
    behind = list(marks)
    for rooms in hands:
        shade(heap, behind, rooms)
    cell = _least_grey(behind)
    while cell is not None:
        # Whatever book says of pieces.
        go_through(heap, behind, cell, False)
        cell = _least_grey(behind)
    return (heap, tuple(behind), hands, looked)


def lost(book, standing):
    """Returns the ascending tuple of the cells that are white in the end, though some hand comes to them."""
    return white_reached(last_look(book, standing))


def white_reached(standing):
    """Returns the ascending tuple of the white cells that some hand comes to."""
    return tuple([cell for cell in reached(standing) if standing[1][cell] == "white"])


def floating(book, standing):
    """Returns the ascending tuple of the cells that are black in the end, though no hand comes to them."""
    behind = last_look(book, standing)
    in_use = reached(behind)
    return tuple([cell for cell in cells_marked(behind, "black") if cell not in in_use])
