"""A yard after the words of [K2] and [K3], which does all its edits anew to undo one, to compare the program with."""

from tests.deedmodel import LETTERS, Marked, cells_in_the_end, fault

ARGUMENTS = {**{word: len(letters) for word, letters in LETTERS.items()}, "mark": 1, "sweep": 0, "cycle": 0}


def begun(heap, rooms, many):
    return (
        heap + ((),) * many, ("white",) * len(heap) + ("free",) * many, rooms, (False,) * len(rooms))


def due(standing):
    for hand, was in enumerate(standing[3]):
        if not was:
            return ("look", hand)
    for cell, mark in enumerate(standing[1]):
        if type(mark) is int:
            return ("scan", cell)
    return ("sweep",)


def swept(book, standing):
    """The pair of the cells that go and the standing behind; cells that would be lost in the place of the latter."""
    lost = cells_in_the_end(book, standing, "white", True)
    if lost:
        return lost, None
    gone = cells_in_the_end(book, standing, "white", False)
    heap, marks, hands, looked = standing
    return gone, (
        tuple(() if cell in gone else tuple(None if named in gone else named for named in fields)
              for cell, fields in enumerate(heap)),
        tuple("free" if cell in gone or mark == "free" else "white" for cell, mark in enumerate(marks)),
        hands, tuple(False for _ in looked))


class ModelYard:

    def __init__(self, book, heap, rooms, many):
        self.book, self.first = book, begun(heap, rooms, many)
        self.log = ()
        self.again()

    def again(self):
        """Does all edits of the log anew."""
        self.standing, self.cycles, self.freed = self.first, 0, ()
        for edit in self.log:
            assert self.do(edit) is None

    def do(self, edit):
        """Does an edit; returns None, or what is raised by it, as the name of an error and its field."""
        word = edit[0]
        if word in LETTERS:
            if fault(self.standing, edit) is not None:
                return ("Refused", edit)
            return self.stand(self.behind(self.standing, edit), 0, self.freed)
        here = due(self.standing)
        if word == "mark":
            if type(edit[1]) is not int or not 1 <= edit[1] <= 400 or here == ("sweep",):
                return ("Unfit",)
            return self.stand(self.marked(edit[1]), 0, self.freed)
        if word == "sweep" and here != ("sweep",):
            return ("Unfit",)
        gone, behind = swept(self.book, self.marked(400))
        return ("Lost", gone) if behind is None else self.stand(behind, 1, gone)

    def stand(self, standing, more, freed):
        self.standing, self.cycles, self.freed = standing, self.cycles + more, freed

    def behind(self, standing, deed):
        marked = Marked(standing)
        marked.do(self.book, deed)
        return marked.standing()

    def marked(self, many):
        standing = self.standing
        while many and due(standing) != ("sweep",):
            standing, many = self.behind(standing, due(standing)), many - 1
        return standing

    def edit(self, edit):
        """What an edit comes to: the version, or what is raised; which changes nothing."""
        ahead = (self.standing, self.cycles, self.freed)
        raised = self.do(edit)
        if raised is None and len(self.log) == 200:
            raised = ("TooManyEdits",)
        if raised is not None:
            self.standing, self.cycles, self.freed = ahead
            return raised
        self.log += (edit,)
        return len(self.log)

    def undo(self):
        if not self.log:
            return ("NothingToUndo",)
        self.log = self.log[:-1]
        self.again()
        return len(self.log)

    def told(self):
        return (
            self.book, self.standing, self.log, len(self.log), self.cycles, self.freed, due(self.standing))


def told_of(yard):
    """What a yard tells of itself, in the order of ModelYard.told."""
    return (yard.book, yard.standing, yard.log, yard.version, yard.cycles, yard.freed, yard.due)


def done(yard, edit):
    """What the method of a yard comes to that is an edit's word."""
    try:
        return getattr(yard, edit[0])(*edit[1:])
    except ValueError as error:
        return (type(error).__name__, *vars(error).values())
