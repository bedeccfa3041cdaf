"""Small programs: rows of lines, each a deed of a hand without the hand's number, and what these do to places."""

from guardbooks.bounds import MAX_FIELDS, MAX_PROGRAM, MAX_ROOMS
from guardbooks.kinds import is_number_below, is_tuple_of

# What stands behind each word of a line.
LINES = {
    "drop": ("room",), "copy": ("room", "room"), "make": ("room", "many"), "read": ("room", "field", "room"),
    "write": ("room", "field", "room or nothing")}


def program_error(value):
    """Returns None if value, any value, is a program, otherwise the first error that applies."""
    if not is_tuple_of(value, 0, MAX_PROGRAM):
        return "form"
    for place, item in enumerate(value):
        if not _is_line(item):
            return ("line", place)
    return None


def programs_error(standing, value):
    """Returns None if value, any value, are programs for standing, otherwise the first error that applies."""
    many = len(standing[2])
    if not is_tuple_of(value, many, many):
        return "form"
    for hand, program in enumerate(value):
        error = program_error(program)
        if error is not None:
            return ("program", hand, error)
    return None


def _is_line(value):
    if not is_tuple_of(value, 2, 4) or not isinstance(value[0], str):
        return False
    kinds = LINES.get(value[0], ())
    if len(kinds) != len(value) - 1:
        return False
    return all([_is_of_kind(number, kind) for number, kind in zip(value[1:], kinds)])


def _is_of_kind(value, kind):
    if kind == "many":
        return is_number_below(value, MAX_FIELDS + 1)
    if kind == "field":
        return is_number_below(value, MAX_FIELDS)
    return is_number_below(value, MAX_ROOMS) or (value is None and kind == "room or nothing")


def deeds_of(hand, program):
    """Returns the tuple of the deeds that the lines of program are for this hand."""
    return tuple([(line[0], hand) + line[1:] for line in program])


# There may be thousands of places of a weaving, so each is a number. Its bits tell, from the lowest ones on: of each
# cell whether it is white; of each whether it is grey; whether it is grey with the mark 1; or with the mark 2; of each
# hand whether it was looked at. All above them is the number of the scene. Which scene comes behind a deed does not
# hang on marks, nor which cells it may shade: so of each scene this is told once.


def bits_of(cells):
    """Returns the number with the bits of these cells; None among them is no cell."""
    bits = 0
    for cell in cells:
        if cell is not None:
            bits = bits | (1 << cell)
    return bits


class Scene:
    """All of a place but marks and looks: plain is its standing without them, left tells how many lines are left."""

    def __init__(self, plain, left):
        self.plain = plain
        self.left = left
        self.many = len(plain[0])
        self.fielded = bits_of([cell for cell, fields in enumerate(plain[0]) if fields])
        # Of each hand the bit that tells whether it was looked at, those of what its look shades, and the look itself.
        self.looks = [
            (1 << (4 * self.many + hand), bits_of(rooms), ("look", hand)) for hand, rooms in enumerate(plain[2])]
        # The pairs of this bit of a hand and of its next move are found when they are asked for.
        self.moves = None

    def shaded(self, place, cells):
        """Returns place with those of the cells shaded that are white there."""
        white = place & cells
        return (place ^ white) | ((white & self.fielded) << self.many)


class Move:
    """What a deed of a hand does to places: onward is what is added to come to the scene behind."""

    def __init__(self, deed, onward):
        self.deed = deed
        self.onward = onward

    def behind(self, place, phase):
        """Returns the place behind it, phase being that of the hand."""
        return place + self.onward

    def asked(self, place, phase):
        """Returns the entries that do something in it."""
        return []


class Making(Move):
    """The hand makes a cell: added has for each colour what is added to places for it."""

    def __init__(self, deed, onward, makes, added):
        Move.__init__(self, deed, onward)
        self.makes = makes
        self.added = added

    def behind(self, place, phase):
        """Returns the place behind it, phase being that of the hand."""
        return place + self.onward + self.added[self.makes[phase]]

    def asked(self, place, phase):
        """Returns the entries that do something in it."""
        return [] if self.makes[phase] == "white" else [("make", phase)]


class Guarded(Move):
    """The hand reads from a cell or writes to it; was and now are the bits of what its field names ahead and behind."""

    def __init__(self, deed, onward, scene, book, bits):
        Move.__init__(self, deed, onward)
        self.scene = scene
        self.rules = book
        self.white, self.was, self.now = bits
        self.grey = self.white << scene.many
        self.gone = (self.grey << scene.many) | (self.grey << (2 * scene.many))
        self.heeded = {}

    def behind(self, place, phase):
        """Returns the place behind it, phase being that of the hand."""
        _, shades, again = self._heeding(phase, self._colour(place))
        there = self.scene.shaded(place, shades) if place & shades else place
        if place & again:
            there = self._led_back(there)
        return there + self.onward

    def asked(self, place, phase):
        """Returns the entries that do something in it."""
        colour = self._colour(place)
        told, _, again = self._heeding(phase, colour)
        entries = [entry for entry, cells in told if place & cells]
        if place & again and self._led_back(place) != place:
            entries.append(("write", phase, colour, "again"))
        return entries

    def _colour(self, place):
        if place & self.white:
            return 0
        return 1 if place & self.grey else 2

    def _led_back(self, place):
        """Returns place with the cell, which is not white, grey from its first field on."""
        return (place | self.grey | self.gone) ^ self.gone

    def _heeding(self, phase, colour):
        """Returns the triple of the entries that shade, each with the bit of what it shades if that is white, of all
        these bits, and of the bit of what leads the cell back if that is white."""
        if (phase, colour) not in self.heeded:
            if self.deed[0] == "read":
                self.heeded[phase, colour] = self._read_heeding(phase, colour)
            else:
                self.heeded[phase, colour] = self._write_heeding(phase, colour)
        return self.heeded[phase, colour]

    def _read_heeding(self, phase, colour):
        if self.rules[1][phase][colour]:
            return [(("read", phase, colour), self.was)], self.was, 0
        return [], 0, 0

    def _write_heeding(self, phase, colour):
        guard = self.rules[0][phase][colour]
        told, shades = [], 0
        for word, cells in (("old", self.was), ("new", self.now)):
            # What "old" shaded is not white any more for "new", nor what these shaded for "again".
            if word in guard and not cells & shades:
                told.append((("write", phase, colour, word), cells))
                shades = shades | cells
        # A white cell is not led back; where it was just shaded it is at its first field already.
        again = self.now if "again" in guard and colour > 0 and not self.now & shades else 0
        return told, shades, again
