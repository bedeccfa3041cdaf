"""Sweeping: what stayed white to the end of a marking is free again."""

from guardbooks.ending import cells_marked, last_look, white_reached
from guardbooks.errors import Lost


def freed(book, standing):
    """Returns the ascending tuple of the cells that are swept; raises Lost if a hand comes to one of them."""
    behind = last_look(book, standing)
    cells = white_reached(behind)
    if cells:
        raise Lost(cells)
    return cells_marked(behind, "white")


def swept(book, standing):
    """Returns the standing with which the next marking begins."""
    _, behind = freed_and_swept(book, standing)
    return behind


def freed_and_swept(book, standing):
    """Returns the pair of what freed and swept tell."""
    cells = freed(book, standing)
    heap, marks, hands, _ = standing
    left = [() if cell in cells else _without(fields, cells) for cell, fields in enumerate(heap)]
    behind = ["free" if cell in cells or mark == "free" else "white" for cell, mark in enumerate(marks)]
    return cells, (tuple(left), tuple(behind), hands, (False,) * len(hands))


def _without(fields, cells):
    """Returns fields with None where they name one of cells."""
    return tuple([None if named in cells else named for named in fields])
