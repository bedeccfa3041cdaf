"""Standings for tests, made without the program's own functions."""

import itertools
import random

from tests.support import PAIR, STANDING

MANY = 40
NO_HAND = ((None,),)


def white(heap, hands):
    return (heap, ("white",) * len(heap), hands, (False,) * len(hands))


def chain(many, step=1):
    """Cells in a row, each naming the next one by its last field."""
    return tuple((None, cell + step) if cell + step < many else () for cell in range(many))


def ring(many):
    return tuple(((cell + 1) % many,) for cell in range(many))


ROW = white(chain(MANY), ((None, 0),))
ROUND = white(ring(MANY), ((7,),))
SELVES = white(tuple((cell, cell, cell) for cell in range(MANY)), ((3, 5), (None, 39, 3)))
WIDE = white(
    tuple(tuple(min(3 * cell + k, 39) for k in (1, 2, 3)) for cell in range(MANY)), ((0, 0, 0, 0),) * 4)
FULL_HANDS = white(ring(MANY), ((0, 10, 20, 30), (None, 5, 5, 0), (39, 38, 37, 36), (None,) * 4))
LATE = white(((1,), (2,), (3,), ()), ((None, None, 3), (0, 2)))
NAMED = (ROW, ROUND, SELVES, WIDE, FULL_HANDS, LATE, STANDING)


def random_standing(chance):
    many = chance.choice((0, 1, 2, 3, 4, 5, 8, 13, 40))
    free = [chance.random() < 0.2 for _ in range(many)]
    used = [cell for cell in range(many) if not free[cell]]

    def named():
        return chance.choice(used) if used and chance.random() < 0.6 else None

    heap = tuple(() if free[cell] else tuple(named() for _ in range(chance.randrange(4))) for cell in range(many))
    marks = tuple(
        "free" if free[cell] else chance.choice(("white", "black", *range(len(heap[cell])))) for cell in range(many))
    hands = tuple(tuple(named() for _ in range(chance.randint(1, 4))) for _ in range(chance.randint(1, 4)))
    return (heap, marks, hands, tuple(chance.random() < 0.5 for _ in hands))


def random_standings():
    chance = random.Random(7)
    return [random_standing(chance) for _ in range(150)]


def small_standings():
    """All standings of two cells with up to two fields, of one hand with one room or with two."""
    items = (None, 0, 1)
    cells = [fields for many in range(3) for fields in itertools.product(items, repeat=many)]
    for heap in itertools.product(cells, repeat=2):
        for hand in [(item,) for item in items] + [(0, 1), (1, 0), (None, 1)]:
            yield white(heap, (hand,))


def ended(standing):
    """The standing with grey cells black, and all hands looked at: so it is over, though things may be lost."""
    heap, marks, hands, looked = standing
    return (heap, tuple("black" if type(mark) is int else mark for mark in marks), hands, (True,) * len(looked))
