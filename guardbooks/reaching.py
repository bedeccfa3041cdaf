"""What hands come to: the cells that they hold, and all that the fields of these lead to."""


def reached(standing):
    """Returns the ascending tuple of all cells that some hand comes to."""
    return tuple(sorted(_ways(standing)))


def way_to(standing, cell):
    """Returns a shortest way (hand, room, field, field, ..) to the cell, None if no hand comes to it."""
    return _ways(standing).get(cell)


def _ways(standing):
    """Gives for each cell that some hand comes to one of its shortest ways."""
    heap, _, hands, _ = standing
    ways = _ways_of_held(hands)
    level = list(ways)
    # All cells of a level have ways of one length, so the first way found to a cell is a shortest one.
    while level:
        further = []
        for cell in level:
            for field, named in enumerate(heap[cell]):
                if named is not None and named not in ways:
                    ways[named] = ways[cell] + (field,)
                    further.append(named)
        level = further
    return ways


def _ways_of_held(hands):
    ways = {}
    for hand, rooms in enumerate(hands):
        for room, held in enumerate(rooms):
            if held is not None and held not in ways:
                ways[held] = (hand, room)
    return ways
