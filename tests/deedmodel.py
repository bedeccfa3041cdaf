"""A marked heap that is changed in place, after the words of [C1] to [D4], to compare the program with."""

# What the numbers behind each word are: of a hand, its rooms, a cell, a field, or of how many fields.
LETTERS = {"look": "h", "scan": "c", "drop": "hi", "copy": "hij", "make": "hin", "read": "hifj", "write": "hifj"}


def has_form(value):
    if type(value) is not tuple or not value or type(value[0]) is not str or value[0] not in LETTERS:
        return False
    if len(value) != len(LETTERS[value[0]]) + 1:
        return False
    return all(
        type(item) is int and item >= 0 or item is None and letter == "j" and value[0] == "write"
        for letter, item in zip(LETTERS[value[0]], value[1:]))


def fault(standing, value):
    """What [C2] tells of value."""
    if not has_form(value):
        return "form"
    heap, marks, hands, looked = standing
    told = dict(zip(LETTERS[value[0]], value[1:]))
    if "h" in told and told["h"] not in range(len(hands)):
        return "hand"
    rooms = hands[told["h"]] if "h" in told else ()
    if any(told[letter] not in range(len(rooms)) for letter in "ij" if told.get(letter) is not None):
        return "room"
    if "c" in told and told["c"] not in range(len(heap)):
        return "cell"
    if "n" in told and told["n"] not in (0, 1, 2, 3):
        return "fields"
    if "f" in told:
        if rooms[told["i"]] is None:
            return "empty"
        if told["f"] not in range(len(heap[rooms[told["i"]]])):
            return "field"
    closed = {
        "look": lambda: looked[told["h"]], "scan": lambda: marks[told["c"]] in ("free", "white", "black"),
        "make": lambda: marks.count("free") == 0}
    return "closed" if value[0] in closed and closed[value[0]]() else None


def told_deeds(standing, beyond=0):
    """All deeds whose numbers are those of the standing, or greater by beyond at most."""
    heap, _, hands, _ = standing
    for cell in range(len(heap) + beyond):
        yield ("scan", cell)
    for hand in range(len(hands) + beyond):
        rooms = range((len(hands[hand]) if hand < len(hands) else 1) + beyond)
        yield ("look", hand)
        for i in rooms:
            yield ("drop", hand, i)
            yield from (("copy", hand, i, j) for j in rooms)
            yield from (("make", hand, i, n) for n in range(4 + beyond))
            for field in range(3 + beyond):
                yield from (("read", hand, i, field, j) for j in rooms)
                yield from (("write", hand, i, field, j) for j in [*rooms, None])


def done_deeds(standing):
    """All deeds that can be done."""
    return [deed for deed in told_deeds(standing) if fault(standing, deed) is None]


class Marked:
    """A standing whose lists are changed by deeds."""

    def __init__(self, standing):
        heap, marks, hands, looked = standing
        self.heap = [list(fields) for fields in heap]
        self.marks = list(marks)
        self.hands = [list(rooms) for rooms in hands]
        self.looked = list(looked)

    def standing(self):
        return (
            tuple(tuple(fields) for fields in self.heap), tuple(self.marks),
            tuple(tuple(rooms) for rooms in self.hands), tuple(self.looked))

    def shade(self, cell):
        """Whether there was a white cell to be shaded."""
        if cell is None or self.marks[cell] != "white":
            return False
        self.marks[cell] = 0 if len(self.heap[cell]) > 0 else "black"
        return True

    def colour(self, cell):
        return {"white": 0, "black": 2}.get(self.marks[cell], 1)

    def do(self, book, deed):
        """Does a deed that can be done; returns the ascending tuple of the entries that did something."""
        return tuple(sorted(getattr(self, deed[0])(book, *deed[1:]) or []))

    def look(self, book, hand):
        for cell in self.hands[hand]:
            self.shade(cell)
        self.looked[hand] = True

    def scan(self, book, cell):
        if not book[4]:
            for named in self.heap[cell]:
                self.shade(named)
            self.marks[cell] = "black"
            return
        place = self.marks[cell]
        self.shade(self.heap[cell][place])
        self.marks[cell] = place + 1
        if self.marks[cell] == len(self.heap[cell]):
            self.marks[cell] = "black"

    def drop(self, book, hand, i):
        self.hands[hand][i] = None

    def copy(self, book, hand, i, j):
        self.hands[hand][j] = self.hands[hand][i]

    def make(self, book, hand, i, many):
        cell = self.marks.index("free")
        self.heap[cell] = [None] * many
        self.hands[hand][i] = cell
        made = book[2][int(self.looked[hand])]
        self.marks[cell] = {"white": "white", "grey": 0 if many else "black", "black": "black"}[made]
        return [] if made == "white" else [("make", int(self.looked[hand]))]

    def read(self, book, hand, i, field, j):
        cell = self.hands[hand][i]
        phase, colour = int(self.looked[hand]), self.colour(cell)
        self.hands[hand][j] = self.heap[cell][field]
        if book[1][phase][colour] and self.shade(self.heap[cell][field]):
            return [("read", phase, colour)]
        return []

    def write(self, book, hand, i, field, j):
        cell = self.hands[hand][i]
        phase, colour = int(self.looked[hand]), self.colour(cell)
        was, now = self.heap[cell][field], None if j is None else self.hands[hand][j]
        self.heap[cell][field] = now
        words = []
        if "old" in book[0][phase][colour] and self.shade(was):
            words.append("old")
        if "new" in book[0][phase][colour] and self.shade(now):
            words.append("new")
        if "again" in book[0][phase][colour] and self.marks[cell] != "white":
            if now is not None and self.marks[now] == "white":
                if self.marks[cell] != 0:
                    words.append("again")
                self.marks[cell] = 0
        return [("write", phase, colour, word) for word in words]

    def over(self):
        return all(self.looked) and all(mark in ("free", "white", "black") for mark in self.marks)

    def last_look(self, book):
        """Shades what is held, and all that this leads to over white cells, if the book has a last look."""
        if book[3]:
            held = [cell for rooms in self.hands for cell in rooms]
            while held:
                cell = held.pop()
                if self.shade(cell):
                    self.marks[cell] = "black"
                    held += self.heap[cell]

    def come_to(self):
        """The cells that hands come to."""
        found = {cell for rooms in self.hands for cell in rooms} - {None}
        more = found
        while more:
            more = {named for cell in more for named in self.heap[cell]} - {None} - found
            found |= more
        return found


def cells_in_the_end(book, standing, mark, come_to):
    """The cells with this mark behind the last look, to which hands come, or do not."""
    marked = Marked(standing)
    marked.last_look(book)
    found = marked.come_to()
    return tuple(
        cell for cell, other in enumerate(marked.marks) if other == mark and (cell in found) == come_to)


def random_run(chance, book, standing, many):
    """As many random deeds as told, done one behind another (fewer if none can be done)."""
    marked, deeds = Marked(standing), []
    for _ in range(many):
        rows = {}
        for deed in done_deeds(marked.standing()):
            rows.setdefault(deed[0], []).append(deed)
        if not rows:
            break
        # By words first: there are far more reads and writes than looks and scans.
        deeds.append(chance.choice(rows[chance.choice(sorted(rows))]))
        marked.do(book, deeds[-1])
    return tuple(deeds)


def quick_run(chance, book, standing, many):
    """Random deeds likewise, each tried until one can be done: quicker where there are many cells and rooms."""
    marked, deeds = Marked(standing), []
    words = [*LETTERS, "look", "scan", "read", "write"]
    for _ in range(many):
        here = marked.standing()
        for _ in range(30):
            deed = drawn_deed(chance, here, chance.choice(words))
            if fault(here, deed) is None:
                deeds.append(deed)
                marked.do(book, deed)
                break
    return tuple(deeds)


def drawn_deed(chance, standing, word):
    """A random deed of this word, whether it can be done or not."""
    heap, marks, hands, _ = standing
    hand = chance.randrange(len(hands))
    rooms = range(len(hands[hand]))
    grey = [cell for cell, mark in enumerate(marks) if type(mark) is int]
    # Rooms that hold a cell are taken more often.
    holding = [room for room in rooms if hands[hand][room] is not None] or [*rooms]
    numbers = {
        "h": hand, "c": chance.choice(grey or [0]), "i": chance.choice(holding), "n": chance.randrange(4),
        "f": chance.randrange(3), "j": chance.choice([*rooms, None] if word == "write" else rooms)}
    return (word, *[numbers[letter] for letter in LETTERS[word]])
