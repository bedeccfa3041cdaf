"""Sweeping: what stayed white to the end of a marking is free again."""

from guardbooks.ending import cells_of_colour, last_look, lost
from guardbooks.errors import Lost


def freed(book, standing):
    """Returns the ascending tuple of the cells that are swept; raises Lost if a hand comes to one of them."""
    cells = lost(book, standing)
    if cells:
        raise Lost(cells)
    return cells_of_colour(last_look(book, standing), 0)


def swept(book, standing):
    """Returns the standing with which the next marking begins."""
    cells = freed(book, standing)
    heap, marks, hands, _ = standing
    left = [() if cell in cells else _without(fields, cells) for cell, fields in enumerate(heap)]
    behind = ["free" if cell in cells or mark == "free" else "white" for cell, mark in enumerate(marks)]
    return (tuple(left), tuple(behind), hands, (False,) * len(hands))


def _without(fields, cells):
    """Returns fields with None where they name one of cells."""
    return tuple([None if named in cells else named for named in fields])
