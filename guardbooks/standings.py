"""Standings: a heap with the marks of its cells, and hands that hold cells."""

from guardbooks.bounds import MAX_CELLS, MAX_HANDS, MAX_ROOMS
from guardbooks.errors import BadHeap, BadStanding, Unfit
from guardbooks.heaps import heap_error
from guardbooks.kinds import first_misformed, first_misnamed, is_number_below, is_tuple_of


def standing_error(value):
    """Returns None if value, any value, is a standing, otherwise the first error that applies."""
    if not is_tuple_of(value, 4, 4):
        return "form"
    heap, marks, hands, looked = value
    error = heap_error(heap)
    if error is not None:
        return ("heap", error)
    # Each step relies on the ones ahead of it, so it is taken only where these found nothing.
    error = _marks_error(heap, marks)
    if error is None:
        error = _hands_error(hands, len(heap))
    if error is None:
        error = _looked_error(looked, len(hands))
    if error is None:
        error = _free_error(heap, marks, hands)
    return error


def _marks_error(heap, marks):
    if not is_tuple_of(marks, len(heap), len(heap)):
        return "marks"
    for cell, mark in enumerate(marks):
        if not _is_mark(mark, len(heap[cell])):
            return ("mark", cell)
    return None


def _is_mark(value, many_fields):
    return value in ("free", "white", "black") or is_number_below(value, many_fields)


def _hands_error(hands, many_cells):
    if not is_tuple_of(hands, 1, MAX_HANDS):
        return "hands"
    hand = first_misformed(hands, 1, MAX_ROOMS)
    if hand is not None:
        return ("hand", hand)
    places = first_misnamed(hands, many_cells)
    if places is not None:
        return ("room",) + places
    return None


def _looked_error(looked, many_hands):
    if not is_tuple_of(looked, many_hands, many_hands):
        return "looked"
    for hand, item in enumerate(looked):
        if not isinstance(item, bool):
            return ("looked", hand)
    return None


def _free_error(heap, marks, hands):
    in_use = _cells_in_use(heap, hands)
    for cell, mark in enumerate(marks):
        if mark == "free" and in_use[cell]:
            return ("free", cell)
    return None


def _cells_in_use(heap, hands):
    """Tells of each cell whether it has fields, or some field names it, or some hand holds it."""
    in_use = [len(fields) > 0 for fields in heap]
    for row in heap + hands:
        for number in row:
            if number is not None:
                in_use[number] = True
    return in_use


def start(heap, hands, many):
    """Returns the standing with all cells of heap white, many free ones behind, and no hand looked at."""
    error = heap_error(heap)
    if error is not None:
        raise BadHeap(error)
    if not is_number_below(many, MAX_CELLS - len(heap) + 1):
        raise Unfit()
    error = _hands_error(hands, len(heap) + many)
    if error is not None:
        raise BadStanding(error)
    cells = heap + ((),) * many
    marks = ("white",) * len(heap) + ("free",) * many
    error = _free_error(cells, marks, hands)
    if error is not None:
        raise BadStanding(error)
    return (cells, marks, hands, (False,) * len(hands))


def colour_of(standing, cell):
    """Returns 0 for a white cell, 1 for a grey one, 2 for a black one, None for a free one."""
    mark = standing[1][cell]
    if mark == "free":
        return None
    if mark == "white":
        return 0
    if mark == "black":
        return 2
    return 1
