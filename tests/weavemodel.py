"""Weavings after the words of [I1], place by place, over a heap that is changed in place, to compare with."""

from tests.bookpool import told_by
from tests.deedmodel import Marked, cells_in_the_end, fault

MOST = 3000


def deed_of(hand, line):
    return (line[0], hand, *line[1:])


def passed_over(standing, left):
    """The lines that are left, without next ones that cannot be done."""
    rest = []
    for hand, lines in enumerate(left):
        while lines and fault(standing, deed_of(hand, lines[0])) is not None:
            lines = lines[1:]
        rest.append(lines)
    return tuple(rest)


class Woven:
    """All places that come; None in the place of them if they are more than MOST."""

    def __init__(self, book, standing, programs):
        self.book = book
        self.asked = set()
        first = (standing, passed_over(standing, programs))
        self.ahead = {first: None}
        row = [first]
        for place in row:
            for deed, behind in self.next_places(place):
                if behind not in self.ahead:
                    self.ahead[behind] = (place, deed)
                    row.append(behind)
            if len(row) > MOST:
                self.ahead = None
                return

    def next_places(self, place):
        standing, left = place
        for hand, looked in enumerate(standing[3]):
            if not looked:
                yield ("look", hand), self.behind(standing, ("look", hand), left)
        for cell, mark in enumerate(standing[1]):
            if type(mark) is int:
                yield ("scan", cell), self.behind(standing, ("scan", cell), left)
        for hand, lines in enumerate(left):
            if lines:
                deed = deed_of(hand, lines[0])
                yield deed, self.behind(standing, deed, left[:hand] + (lines[1:],) + left[hand + 1:])

    def behind(self, standing, deed, left):
        marked = Marked(standing)
        self.asked.update(marked.do(self.book, deed))
        return (marked.standing(), passed_over(marked.standing(), left))

    def run_to(self, place):
        """A shortest run to place."""
        deeds = []
        while self.ahead[place] is not None:
            place, deed = self.ahead[place]
            deeds.append(deed)
        return tuple(deeds[::-1])

    def shortest_loss(self):
        """How many deeds the shortest run has that loses something, None if there is none."""
        runs = [
            len(self.run_to(place)) for place in self.ahead
            if Marked(place[0]).over() and cells_in_the_end(self.book, place[0], "white", True)]
        return min(runs, default=None)

    def ends(self):
        return [place for place in self.ahead if Marked(place[0]).over() and not any(place[1])]

    def kept(self):
        many = [len(cells_in_the_end(self.book, standing, "black", False)) for standing, _ in self.ends()]
        return (min(many), max(many))

    def unasked(self):
        return tuple(sorted(entry for entry in told_by(self.book) if entry not in self.asked))
