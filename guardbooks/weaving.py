"""Weavings of small programs: all places that come of the hands' deeds, whenever the marker does its own."""

from guardbooks.books import entries, plain_book
from guardbooks.bounds import MAX_WOVEN
from guardbooks.counting import out_of_use
from guardbooks.deeds import deed_error
from guardbooks.ending import lost
from guardbooks.errors import TooMany
from guardbooks.moving import after
from guardbooks.programs import Guarded, Making, Move, Scene, bits_of, deeds_of
from guardbooks.reaching import reached


def woven(book, standing, programs):
    """Returns how many unlike places come."""
    return len(Weaver(book, standing, programs).came)


def may_lose(book, standing, programs):
    """Returns a shortest tuple of deeds by which a weaving comes to lose something, None if none does."""
    weaver = Weaver(book, standing, programs)
    in_use = {}
    for place in weaver.came:
        if weaver.is_over(place):
            number = place >> weaver.width
            if number not in in_use:
                in_use[number] = bits_of(reached(weaver.scenes[number].plain))
            # Only what is white is lost, and only a last look may keep it.
            if place & in_use[number] and (not book[3] or lost(book, weaver.standing_of(place))):
                return weaver.deeds_to(place)
    return None


def kept(book, standing, programs):
    """Returns the pair of the least and the greatest number of floating cells at an end."""
    weaver = Weaver(book, standing, programs)
    spare = {}
    numbers = []
    for place in weaver.came:
        number = place >> weaver.width
        if weaver.is_over(place) and not any(weaver.scenes[number].left):
            if number not in spare:
                spare[number] = out_of_use(weaver.scenes[number].plain)
            # A last look shades nothing of these.
            numbers.append(len([cell for cell in spare[number] if not (place >> cell) & 1]))
    return (min(numbers), max(numbers))


def unasked(book, standing, programs):
    """Returns the ascending tuple of the entries of book that no deed of any weaving asks."""
    weaver = Weaver(book, standing, programs)
    asked = {}
    for place in weaver.came:
        for look, move in weaver.scenes[place >> weaver.width].moves:
            for entry in move.asked(place, 1 if place & look else 0):
                asked[entry] = True
    return tuple([entry for entry in entries(book) if entry not in asked])


class Weaver:
    """All places that come: came gives for each one the place ahead and the deed between, shortest ways first."""

    def __init__(self, book, standing, programs):
        heap, marks, hands, looked = standing
        self.rules = book
        self.deeds = [deeds_of(hand, program) for hand, program in enumerate(programs)]
        self.many = len(heap)
        self.cells = (1 << self.many) - 1
        self.first_look = 4 * self.many
        self.width = self.first_look + len(hands)
        self.over = ((1 << len(hands)) - 1) << self.first_look
        self.scenes = []
        self.numbers = {}
        plain = ["free" if mark == "free" else "white" for mark in marks]
        left = [len(deeds) for deeds in self.deeds]
        first = self._number_of((heap, tuple(plain), hands, (False,) * len(hands)), tuple(left)) << self.width
        self.came = {first | self._marked(marks, looked): None}
        self._go_on(list(self.came))

    def is_over(self, place):
        """Tells whether every hand was looked at and no cell is grey."""
        return place & (self.over | (self.cells << self.many)) == self.over

    def standing_of(self, place):
        """Returns the standing of a place that is over."""
        heap, plain, hands, _ = self.scenes[place >> self.width].plain
        marks = ["black" if mark == "white" and not (place >> cell) & 1 else mark for cell, mark in enumerate(plain)]
        return (heap, tuple(marks), hands, (True,) * len(hands))

    def deeds_to(self, place):
        """Returns a shortest tuple of deeds that lead to place."""
        deeds = []
        step = self.came[place]
        while step is not None:
            deeds.append(step[1])
            step = self.came[step[0]]
        return tuple(reversed(deeds))

    def _marked(self, marks, looked):
        """Returns the bits of these marks and looks."""
        bits = bits_of([cell for cell, mark in enumerate(marks) if mark == "white"])
        for cell, mark in enumerate(marks):
            if isinstance(mark, int):
                grey = 1 << (self.many + cell)
                bits = bits | grey | (grey << (mark * self.many))
        return bits | (bits_of([hand for hand, was in enumerate(looked) if was]) << self.first_look)

    def _go_on(self, level):
        """Finds all further places, those of one more deed at a time."""
        while level:
            further = []
            for place in level:
                for behind, deed in self._steps(place):
                    if behind not in self.came:
                        self.came[behind] = (place, deed)
                        further.append(behind)
                if len(self.came) > MAX_WOVEN:
                    raise TooMany(MAX_WOVEN)
            level = further

    def _steps(self, place):
        """Returns the pairs of a place that comes next and the deed that leads to it."""
        number = place >> self.width
        scene = self.scenes[number]
        if scene.moves is None:
            scene.moves = self._moves(number)
        steps = [(move.behind(place, 1 if place & look else 0), move.deed) for look, move in scene.moves]
        for look, held, deed in scene.looks:
            if not place & look:
                steps.append((scene.shaded(place, held) | look, deed))
        grey = (place >> self.many) & self.cells
        while grey:
            bit = grey & -grey
            cell = bit.bit_length() - 1
            steps.append((self._scanned(place, scene, cell), ("scan", cell)))
            grey = grey ^ bit
        return steps

    def _scanned(self, place, scene, cell):
        """Returns the place behind the scan of a grey cell."""
        fields = scene.plain[0][cell]
        grey = 1 << (self.many + cell)
        one, two = grey << self.many, grey << (2 * self.many)
        behind = (place | grey | one | two) ^ (grey | one | two)
        if self.rules[4]:
            gone = 1
            if place & one:
                gone = 2
            elif place & two:
                gone = 3
            if gone < len(fields):
                behind = behind | grey | (grey << (gone * self.many))
            fields = fields[gone - 1:gone]
        return scene.shaded(behind, bits_of(fields))

    def _number_of(self, plain, left):
        """Returns the number of the scene in which so many lines are left, but for those that are passed over."""
        if (plain, left) not in self.numbers:
            passed = self._passed(plain, left)
            if (plain, passed) not in self.numbers:
                self.numbers[plain, passed] = len(self.scenes)
                self.scenes.append(Scene(plain, passed))
            self.numbers[plain, left] = self.numbers[plain, passed]
        return self.numbers[plain, left]

    def _passed(self, plain, left):
        """Returns how many lines are left to each hand when next ones that cannot be done are passed over."""
        passed = []
        for hand, many in enumerate(left):
            while many and deed_error(plain, self.deeds[hand][-many]) is not None:
                many = many - 1
            passed.append(many)
        return tuple(passed)

    def _moves(self, number):
        """Returns what the scene of this number is to have as its moves."""
        scene = self.scenes[number]
        moves = []
        for hand, many in enumerate(scene.left):
            if many:
                deed = self.deeds[hand][-many]
                plain = after(plain_book(False, False), scene.plain, deed)
                left = scene.left[:hand] + (many - 1,) + scene.left[hand + 1:]
                onward = (self._number_of(plain, left) - number) << self.width
                moves.append((scene.looks[hand][0], self._move(scene, deed, onward)))
        return moves

    def _move(self, scene, deed, onward):
        heap, marks, hands, _ = scene.plain
        if deed[0] == "make":
            white = 1 << marks.index("free")
            added = {"white": white, "grey": white << self.many if deed[3] else 0, "black": 0}
            return Making(deed, onward, self.rules[2], added)
        if deed[0] in ("read", "write"):
            rooms = hands[deed[1]]
            cell = rooms[deed[2]]
            was = bits_of((heap[cell][deed[3]],))
            now = 0 if deed[0] == "read" or deed[4] is None else bits_of((rooms[deed[4]],))
            return Guarded(deed, onward, scene, self.rules, (1 << cell, was, now))
        return Move(deed, onward)
