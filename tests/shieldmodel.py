"""What [G1] tells of fields, chains and cells at risk, to compare the program with."""


def gone(standing):
    """The fields that are gone through, as triples of a cell, a field, and what it names."""
    heap, marks, _, _ = standing
    return [
        (cell, at, named) for cell, fields in enumerate(heap) for at, named in enumerate(fields)
        if marks[cell] == "black" or type(marks[cell]) is int and at < marks[cell]]


def to_go(standing):
    """The fields that are still to be gone through, likewise."""
    heap, marks, _, _ = standing
    return [
        (cell, at, named) for cell, fields in enumerate(heap) for at, named in enumerate(fields)
        if type(marks[cell]) is int and at >= marks[cell]]


def whites(standing, cells):
    return {cell for cell in cells if cell is not None and standing[1][cell] == "white"}


def seen(standing):
    return whites(standing, [named for _, _, named in gone(standing)])


def held(standing):
    return whites(standing, [cell for rooms, was in zip(standing[2], standing[3]) if was for cell in rooms])


def lengths(standing):
    """How many cells the shortest chain to each white cell has that has one."""
    long = {cell: 2 for cell in whites(standing, [named for _, _, named in to_go(standing)])}
    changed = True
    while changed:
        changed = False
        for cell in list(long):
            for named in whites(standing, standing[0][cell]):
                if long.get(named, 1000) > long[cell] + 1:
                    long[named] = long[cell] + 1
                    changed = True
    return long


def broken_by(way, standing):
    risk = seen(standing) if way == "last" else seen(standing) | held(standing)
    if way == "child":
        risk -= {named for _, _, named in to_go(standing)}
    if way == "old":
        risk -= set(lengths(standing))
    return tuple(sorted(risk))


def fault(standing, cell, value):
    """What [G3] tells of value."""
    heap, marks, _, _ = standing
    if type(value) is not tuple or len(value) < 2:
        return "form"
    if [item for item in value if type(item) is not int or item not in range(len(heap))]:
        return "form"
    wrong = [at for at, item in enumerate(value) if (marks[item] != "white" if at else type(marks[item]) is not int)]
    if wrong:
        return ("mark", wrong[0])
    for at in range(1, len(value)):
        ahead = value[at - 1]
        fields = heap[ahead][marks[ahead]:] if at == 1 else heap[ahead]
        if value[at] not in fields:
            return ("field", at)
    return None if value[-1] == cell else "end"
