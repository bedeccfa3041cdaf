"""The bounds of everything that this package takes."""

MAX_CELLS = 40
MAX_FIELDS = 3
MAX_HANDS = 4
MAX_ROOMS = 4
MAX_DEEDS = 400
MAX_PROGRAM = 6
MAX_WOVEN = 3000
MAX_EDITS = 200
MAX_PRICE = 1000000
