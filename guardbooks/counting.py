"""Counts: what a marking costs, and what is out of use."""

from guardbooks.bounds import MAX_DEEDS
from guardbooks.errors import TooMany
from guardbooks.moving import moved
from guardbooks.reaching import reached


def left(standing):
    """Returns the pair of how many cells are grey and how many fields of these are still to be gone through."""
    heap, marks, _, _ = standing
    fields = [len(heap[cell]) - mark for cell, mark in enumerate(marks) if isinstance(mark, int)]
    return (len(fields), sum(fields))


def out_of_use(standing):
    """Returns the ascending tuple of the cells that are not free and to which no hand comes."""
    in_use = reached(standing)
    return tuple([cell for cell, mark in enumerate(standing[1]) if mark != "free" and cell not in in_use])


def counts(book, standing, deeds):
    """Returns the sextuple (looks, scans, shaded, greyed, opened, asked) of what is done by deeds."""
    if len(deeds) > MAX_DEEDS:
        raise TooMany(MAX_DEEDS)
    words = []
    shaded, greyed, opened = 0, 0, 0
    times = {}
    here = standing
    for deed in deeds:
        behind, asked = moved(book, here, deed)
        words.append(deed[0])
        for entry in asked:
            times[entry] = times.get(entry, 0) + 1
        if behind[1] != here[1]:
            changes = _changes(here[1], behind, _made_grey(book, here, deed))
            shaded, greyed, opened = shaded + changes[0], greyed + changes[1], opened + changes[2]
        here = behind
    asked = tuple(sorted([(entry, many) for entry, many in times.items()]))
    return (words.count("look"), words.count("scan"), shaded, greyed, opened, asked)


def _made_grey(book, standing, deed):
    """Tells whether deed makes a cell that is white first and then shaded."""
    return deed[0] == "make" and book[2][1 if standing[3][deed[1]] else 0] == "grey"


def _changes(marks, behind, made_grey):
    """Returns the triple (shaded, greyed, opened) of one deed, by the marks ahead of it and the standing behind."""
    shaded, greyed, opened = 0, 0, 0
    for cell, mark in enumerate(behind[1]):
        was = marks[cell]
        if was != mark:
            if was == "white" or (was == "free" and made_grey):
                shaded += 1
            if isinstance(mark, int) and not isinstance(was, int):
                greyed += 1
                opened += len(behind[0][cell])
            elif isinstance(mark, int) and mark < was:
                # A grey cell that is led back to its first field.
                opened += was
    return (shaded, greyed, opened)
