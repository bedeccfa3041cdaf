"""The end of a marking: how it comes, and what is lost or kept for nothing then."""

from guardbooks.books import plain_book
from guardbooks.errors import Unfit
from guardbooks.moving import after, led, shaded
from guardbooks.reaching import reached
from guardbooks.standings import colour_of


def is_over(standing):
    """Tells whether every hand was looked at and no cell is grey."""
    return all(standing[3]) and not next_scans(standing)


def next_scans(standing):
    """Returns the ascending tuple of all grey cells."""
    return cells_of_colour(standing, 1)


def cells_of_colour(standing, colour):
    """Returns the ascending tuple of all cells of this colour."""
    return tuple([cell for cell in range(len(standing[0])) if colour_of(standing, cell) == colour])


def finished(book, standing):
    """Returns the pair of the deeds by which the marking ends if the hands do nothing, and the standing behind."""
    deeds = tuple([("look", hand) for hand, was in enumerate(standing[3]) if not was])
    behind = led(book, standing, deeds)
    grey = next_scans(behind)
    while grey:
        deed = ("scan", grey[0])
        deeds = deeds + (deed,)
        behind = after(book, behind, deed)
        grey = next_scans(behind)
    return (deeds, behind)


def last_look(book, standing):
    """Returns the standing behind the last look, standing itself if book has none."""
    if not is_over(standing):
        raise Unfit()
    if not book[3]:
        return standing
    heap, marks, hands, looked = standing
    for rooms in hands:
        marks = shaded(heap, marks, rooms)
    # Behind the last look grey cells are gone through wholly, whatever book says of pieces.
    _, behind = finished(plain_book(False, False), (heap, marks, hands, looked))
    return behind


def lost(book, standing):
    """Returns the ascending tuple of the cells that are white in the end, though some hand comes to them."""
    behind = last_look(book, standing)
    return tuple([cell for cell in reached(behind) if colour_of(behind, cell) == 0])


def floating(book, standing):
    """Returns the ascending tuple of the cells that are black in the end, though no hand comes to them."""
    behind = last_look(book, standing)
    in_use = reached(behind)
    return tuple([cell for cell in cells_of_colour(behind, 2) if cell not in in_use])
