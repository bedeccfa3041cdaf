"""Heaps: tuples of cells, whose fields name cells of the same heap."""

from guardbooks.bounds import MAX_CELLS, MAX_FIELDS
from guardbooks.kinds import first_misformed, first_misnamed, is_tuple_of


def heap_error(value):
    """Returns None if value, any value, is a heap, otherwise the first error that applies."""
    if not is_tuple_of(value, 0, MAX_CELLS):
        return "form"
    cell = first_misformed(value, 0, MAX_FIELDS)
    if cell is not None:
        return ("cell", cell)
    places = first_misnamed(value, len(value))
    if places is not None:
        return ("field",) + places
    return None
