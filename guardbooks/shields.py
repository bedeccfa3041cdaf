"""Shields: what keeps white cells at risk from being lost, in each of the four ways of safe books."""

from guardbooks.kinds import is_number_below


def seen_white(standing):
    """Returns the ascending tuple of the white cells that some field names which is gone through."""
    heap, marks, _, _ = standing
    gone = [named for cell, fields in enumerate(heap) for named in _gone_through(fields, marks[cell])]
    return _white_ones(marks, gone)


def held_white(standing):
    """Returns the ascending tuple of the white cells that hands hold which were looked at."""
    _, marks, hands, looked = standing
    return _white_ones(marks, [held for hand, rooms in enumerate(hands) if looked[hand] for held in rooms])


def chain(standing, cell):
    """Returns a chain of fewest cells to this one, None if there is none."""
    return _chains(standing).get(cell)


def chain_error(standing, cell, value):
    """Returns None if value, any value, is a chain to cell, otherwise the first error that applies."""
    heap, marks, _, _ = standing
    if not isinstance(value, tuple) or len(value) < 2:
        return "form"
    if not all([is_number_below(item, len(heap)) for item in value]):
        return "form"
    for place, item in enumerate(value):
        right = marks[item] == "white" if place else _is_grey(marks[item])
        if not right:
            return ("mark", place)
    leading = _still_to_go(heap[value[0]], marks[value[0]])
    for place in range(1, len(value)):
        if value[place] not in leading:
            return ("field", place)
        leading = heap[value[place]]
    return None if value[-1] == cell else "end"


def broken(way, standing):
    """Returns the ascending tuple of the white cells that are at risk, and not shielded as way wants it."""
    if way == "last":
        return seen_white(standing)
    at_risk = _white_ones(standing[1], seen_white(standing) + held_white(standing))
    if way == "read":
        return at_risk
    shielded = _named_by_grey(standing) if way == "child" else _chains(standing)
    return tuple([cell for cell in at_risk if cell not in shielded])


def invariant(way, standing):
    """Tells whether nothing is broken of what way wants."""
    return broken(way, standing) == ()


def _is_grey(mark):
    return isinstance(mark, int)


def _gone_through(fields, mark):
    """Returns those fields of a cell with this mark that are gone through."""
    if mark == "black":
        return fields
    return fields[:mark] if _is_grey(mark) else ()


def _still_to_go(fields, mark):
    """Returns those fields of a cell with this mark that are still to be gone through: of grey cells alone."""
    return fields[mark:] if _is_grey(mark) else ()


def _white_ones(marks, cells):
    """Returns the ascending tuple of those of cells that are white; None among these is no cell."""
    return tuple(sorted({cell for cell in cells if cell is not None and marks[cell] == "white"}))


def _named_by_grey(standing):
    """Gives for each white cell that a grey one names by a field still to be gone through the first such chain."""
    heap, marks, _, _ = standing
    chains = {}
    for cell, mark in enumerate(marks):
        for named in _still_to_go(heap[cell], mark):
            if named is not None and marks[named] == "white" and named not in chains:
                chains[named] = (cell, named)
    return chains


def _chains(standing):
    """Gives for each white cell to which a chain leads one of fewest cells."""
    heap, marks, _, _ = standing
    chains = _named_by_grey(standing)
    level = list(chains)
    # The chains to all cells of a level are of one length, so the first one found to a cell is one of fewest cells.
    while level:
        further = []
        for cell in level:
            for named in heap[cell]:
                if named is not None and marks[named] == "white" and named not in chains:
                    chains[named] = chains[cell] + (named,)
                    further.append(named)
        level = further
    return chains
