"""Texts of standings: a line for each cell, then one for each hand."""

from guardbooks.errors import BadStanding, BadText
from guardbooks.kinds import number_in
from guardbooks.standings import standing_error

NOTHING = "-"
MARKS = {"free": "free", "white": "white", "black": "black", "grey0": 0, "grey1": 1, "grey2": 2}
LOOKS = {"looked": True, "unlooked": False}


def standing_text(standing):
    """Returns the text of standing."""
    heap, marks, hands, looked = standing
    lines = []
    for cell, mark in enumerate(marks):
        word = "grey" + str(mark) if isinstance(mark, int) else mark
        lines.append(_line("cell", word, heap[cell]))
    for hand, was in enumerate(looked):
        lines.append(_line("hand", "looked" if was else "unlooked", hands[hand]))
    return "\n".join(lines)


def _line(word, state, row):
    return " ".join([word, state] + [NOTHING if item is None else str(item) for item in row])


def read_standing(value):
    """Returns the standing of which value, any value, is the text."""
    if not isinstance(value, str):
        raise BadText(0)
    cells, hands = [], []
    for place, line in enumerate(value.split("\n")):
        words = line.split(" ")
        row = _row_of(words[2:])
        state = words[1] if len(words) > 1 else ""
        if row is None:
            raise BadText(place)
        if words[0] == "cell" and state in MARKS and not hands:
            cells.append((row, MARKS[state]))
        elif words[0] == "hand" and state in LOOKS:
            hands.append((row, LOOKS[state]))
        else:
            raise BadText(place)
    standing = _firsts(cells) + _firsts(hands)
    error = standing_error(standing)
    if error is not None:
        raise BadStanding(error)
    return standing


def _row_of(words):
    """Returns the tuple of the fields or rooms that words tell, None if one of them tells none."""
    row = []
    for word in words:
        number = number_in(word, 2)
        if number is None and word != NOTHING:
            return None
        row.append(number)
    return tuple(row)


def _firsts(pairs):
    """Returns the pair of the tuple of all first items and that of all second ones."""
    return (tuple([row for row, _ in pairs]), tuple([state for _, state in pairs]))
