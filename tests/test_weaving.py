"""[I1], [I3], [I4], [I5]: all weavings of small programs."""

import functools
import itertools
import random
import unittest

from guardbooks.ending import is_over, lost
from guardbooks.errors import TooMany
from guardbooks.knownbooks import baker, dijkstra, hybrid, steele, yuasa
from guardbooks.moving import led
from guardbooks.safety import is_safe
from guardbooks.standings import start
from guardbooks.weaving import kept, may_lose, unasked, woven
from tests.bookpool import bare, book_of, full, random_books, told_by
from tests.safetymodel import near_books
from tests.standingpool import FULL_HANDS, WIDE, random_standing, ring, white
from tests.support import GuardCase, Quickly
from tests.weavemodel import Woven

WHOLE, PIECES = bare(False, False), bare(False, True)
KNOWN = [maker(pieces) for maker in (dijkstra, steele, yuasa, baker, hybrid) for pieces in (False, True)]
FUNCTIONS = (woven, may_lose, kept, unasked)
PAIR = start(((1,), ()), ((0, None),), 0)
UNHOOK = (("read", 0, 0, 1), ("write", 0, 0, None))
MOST = 3000


def drawn_line(chance):
    word = chance.choice(("drop", "copy", "make", "read", "write", "read", "write"))
    numbers = {
        "i": chance.choice((0, 0, 1, 1, 2, 3)), "j": chance.choice((0, 1, 1, 2)), "n": chance.randrange(4),
        "f": chance.choice((0, 0, 1, 2)), "k": chance.choice((None, 0, 1, 1, 2))}
    letters = {"drop": "i", "copy": "ij", "make": "in", "read": "ifj", "write": "ifk"}[word]
    return (word, *[numbers[letter] for letter in letters])


def drawn_programs(chance, standing, most=6):
    return tuple(
        tuple(drawn_line(chance) for _ in range(chance.choice((0, 1, 1, 2, 3, most)))) for _ in standing[2])


@functools.lru_cache
def drawn_rows(seed, many):
    """Books, standings and programs: starts, and standings of all kinds."""
    chance = random.Random(seed)
    books = random_books(30) + near_books(chance, 100) + KNOWN + [full("grey", True), full("black", False)]
    starts = [
        start(((1, 2), (2, None), ()), ((0, None), (0, 1)), 2), start(((1,), (2,), ()), ((0, None, None),), 1),
        start((), ((None, None), (None,)), 3), start(((0, 1), (None, 1), (2,)), ((0, 1, 2),), 1),
        start(((1, None), (0,)), ((0, None), (1,), (0,), (None, None)), 1)]
    rows = []
    while len(rows) < many:
        standing = chance.choice(starts) if chance.random() < 0.4 else random_standing(chance)
        if len(standing[0]) < 40 or chance.random() < 0.2:
            programs = drawn_programs(chance, standing, chance.choice((4, 6)))
            rows.append((chance.choice(books), standing, programs))
    return rows


@functools.lru_cache
def compared_rows(seed, many):
    """Such rows of which not too many places come, each with what the model tells of it."""
    rows = [(row, Woven(*row)) for row in drawn_rows(seed, many)]
    return [(row, model) for row, model in rows if model.ahead is not None]


class WeaveCase(GuardCase):

    def assert_woven(self, book, standing, programs, model):
        told = {"book": book, "standing": standing, "programs": programs}
        self.assertEqual(woven(**told), len(model.ahead), told)
        self.assertEqual(kept(**told), model.kept(), told)
        self.assertEqual(repr(unasked(**told)), repr(model.unasked()), told)
        self.assert_loss(book, standing, programs, model.shortest_loss())

    def assert_loss(self, book, standing, programs, many):
        """may_lose tells a run of so many deeds, by which something is lost; or None."""
        deeds = may_lose(book, standing, programs)
        self.assertEqual(None if deeds is None else len(deeds), many, (book, standing, programs))
        if deeds is not None:
            self.assertIs(type(deeds), tuple)
            behind = led(book, standing, deeds)
            self.assertTrue(is_over(behind))
            self.assertNotEqual(lost(book, behind), ())
            self.assert_weaves(standing, programs, deeds)

    def assert_weaves(self, standing, programs, deeds):
        """The hands' deeds are lines of their programs, in order, but for those that are passed over."""
        left = {hand: list(lines) for hand, lines in enumerate(programs)}
        for deed in deeds:
            if deed[0] not in ("look", "scan"):
                lines = left[deed[1]]
                self.assertIn((deed[0], *deed[2:]), lines)
                del lines[:lines.index((deed[0], *deed[2:])) + 1]


class WovenTest(WeaveCase):

    def test_drawn_ones(self):
        found = {}
        for (book, standing, programs), model in compared_rows(111, 250):
            self.assert_woven(book, standing, programs, model)
            found[model.shortest_loss() is None] = True
        self.assertEqual(len(found), 2)

    def test_too_many(self):
        """Of larger programs, and not of smaller ones."""
        chance = random.Random(112)
        found = {}
        for book, standing, _ in drawn_rows(111, 250):
            if len(standing[2]) > 1 and len(found) < 2:
                programs = tuple(tuple(drawn_line(chance) for _ in range(chance.choice((4, 6)))) for _ in standing[2])
                there = Woven(book, standing, programs).ahead is not None
                found[there] = True
                for function in FUNCTIONS:
                    kind, told = self.outcome_of(function, book=book, standing=standing, programs=programs)
                    self.assertEqual((kind, told) == (TooMany, {"limit": MOST}), not there)
        self.assertEqual(len(found), 2)

    def test_three_thousand_places_and_more(self):
        """Rows of drops by hands that hold nothing: each is at any of its lines, looked at or not."""
        looked = (False, False, True, True)
        standing = ((), (), ((None,),) * 4, looked)
        four, five = (("drop", 0),) * 4, (("drop", 0),) * 5
        self.assert_told(5 * 2 * 5 * 2 * 6 * 5, woven, book=WHOLE, standing=standing, programs=(four, four, five, four))
        self.assert_told(None, may_lose, book=WHOLE, standing=standing, programs=(four, four, five, four))
        self.assert_told((0, 0), kept, book=WHOLE, standing=standing, programs=(four, four, five, four))
        self.assert_told((), unasked, book=WHOLE, standing=standing, programs=(four, four, five, four))
        for programs in ((four, four, five, five), (four, five, five, four), ((("drop", 0),) * 6,) * 4):
            for function in FUNCTIONS:
                self.assert_raised(
                    TooMany, {"limit": MOST}, function, book=WHOLE, standing=standing, programs=programs)

    def test_too_many_though_something_is_lost_early(self):
        standing = start((), ((None,), (None,), (None,), (None,)), 1)
        programs = ((("make", 0, 0),),) + ((("drop", 0),) * 6,) * 3
        for function in FUNCTIONS:
            self.assert_raised(TooMany, {"limit": MOST}, function, book=WHOLE, standing=standing, programs=programs)

    def test_without_lines(self):
        """Looks and scans alone: with one hand and a row of cells there is one weaving."""
        row = white(tuple((cell + 1,) if cell < 39 else () for cell in range(40)), ((0,),))
        for book in (WHOLE, PIECES, hybrid(True)):
            self.assert_told(41, woven, book=book, standing=row, programs=((),))
            self.assert_told(None, may_lose, book=book, standing=row, programs=((),))
            self.assert_told((0, 0), kept, book=book, standing=row, programs=((),))
            self.assert_told(tuple(sorted(told_by(book))), unasked, book=book, standing=row, programs=((),))
        self.assert_told(16, woven, book=WHOLE, standing=start((), ((None,),) * 4, 3), programs=((),) * 4)
        self.assert_told(1, woven, book=WHOLE, standing=((), (), ((None,),), (True,)), programs=((),))

    def test_scans_field_by_field(self):
        standing = (((None, None, None), (None, None, None)), (0, 1), ((None,),), (True,))
        self.assert_told(4, woven, book=WHOLE, standing=standing, programs=((),))
        self.assert_told(4 * 3, woven, book=PIECES, standing=standing, programs=((),))
        two = ((standing[0] + ((None, None, None),)), (0, 1, 2)) + standing[2:]
        self.assert_told(4 * 3 * 2, woven, book=PIECES, standing=two, programs=((),))

    def test_something_is_lost_already(self):
        standing = (((None,), ()), ("black", "white"), ((0, 1),), (True,))
        for programs in (((),), (UNHOOK,), ((("drop", 1),),)):
            self.assert_told((), may_lose, book=WHOLE, standing=standing, programs=programs)
        self.assert_told(None, may_lose, book=bare(True, False), standing=standing, programs=((),))

    def test_six_lines(self):
        lines = (("make", 1, 1), ("write", 1, 0, 0), ("copy", 1, 0), ("drop", 1), ("read", 0, 0, 1), ("write", 0, 0, None))
        standing = start(((None,),), ((0, None),), 1)
        for book in (WHOLE, PIECES, dijkstra(True), yuasa(False)):
            for programs in ((lines,), (lines[:5],), (lines[::-1],)):
                self.assert_woven(book, standing, programs, Woven(book, standing, programs))

    def test_lines_that_are_passed_over(self):
        """For want of a room, of a cell, of a field, of a free cell."""
        standing = start(((1,), ()), ((0, None),), 0)
        for lines in (
                (("drop", 2),), (("copy", 0, 3),), (("copy", 3, 0),), (("read", 1, 0, 0),), (("read", 0, 1, 0),),
                (("write", 1, 0, None),), (("write", 0, 1, 0),), (("write", 0, 0, 2),), (("make", 0, 1),), (("make", 3, 0),)):
            for many in (1, 2, 6):
                self.assert_told(3, woven, book=WHOLE, standing=standing, programs=(lines * many,))
            self.assert_told(6, woven, book=WHOLE, standing=standing, programs=(lines + (("drop", 1),) + lines,))
            self.assert_told(
                (("look", 0), ("read", 0, 0, 0, 1), ("write", 0, 0, 0, None), ("scan", 0)),
                may_lose, book=WHOLE, standing=standing, programs=(lines + UNHOOK + lines,))

    def test_the_last_free_cell(self):
        """Whoever makes it first has it; the other one's line is passed over then."""
        standing = start((), ((None,), (None, None)), 1)
        programs = ((("make", 0, 0),), (("make", 1, 2), ("drop", 0)))
        model = Woven(WHOLE, standing, programs)
        self.assert_woven(WHOLE, standing, programs, model)
        self.assertEqual({len(place[1][1]) for place in model.ahead}, {0, 1, 2})
        made = {place[0][0] for place in model.ahead}
        self.assertEqual(made, {((),), ((None, None),)})
        self.assert_told(None, may_lose, book=WHOLE, standing=standing[:3] + ((True, True),), programs=((), ()))
        run = may_lose(WHOLE, standing, programs)
        self.assertEqual(len(run), 3)

    def test_free_cells_amid_others(self):
        """The least free cell is made, wherever it stands."""
        standing = (((), (3,), (), (1,)), ("free", "white", "free", 0), ((1, None),), (False,))
        for lines in ((("make", 1, 1), ("write", 1, 0, 0), ("make", 0, 0)), (("make", 0, 2),) * 3):
            for book in (WHOLE, hybrid(True), full("grey", True)):
                self.assert_woven(book, standing, (lines,), Woven(book, standing, (lines,)))

    def test_four_hands(self):
        standing = start(((1,), ()), ((0, None), (0,), (1,), (None,)), 0)
        for programs in (
                (UNHOOK, (), (), ()), ((), (("write", 0, 0, None),), (("drop", 0),), ()),
                ((("read", 0, 0, 1),), (("drop", 0),), (("drop", 0),), (("drop", 0),))):
            for book in (WHOLE, yuasa(False), hybrid(False)):
                self.assert_woven(book, standing, programs, Woven(book, standing, programs))

    def test_again(self):
        """Black and grey cells are led back, however far they are gone through."""
        heap = ((None, None, None), (0, None), (), ())
        lines = (("write", 0, 0, 2), ("write", 1, 0, 2), ("write", 0, 2, 2), ("write", 0, 0, None))
        words = (("again",), ("again", "new"), ("again", "old"), ("again", "new", "old"))
        for mark, pieces, phase, guard in itertools.product((0, 1, 2, "black"), (False, True), (False, True), words):
            told = [("write", hand, colour, word) for hand in (0, 1) for colour in (0, 1, 2) for word in guard]
            book, first = book_of(told, pieces=pieces), (heap, (mark, 1, "white", "free"), ((0, 1, 2),), (phase,))
            self.assert_woven(book, first, (lines,), Woven(book, first, (lines,)))

    def test_forty_cells(self):
        """Of a wide heap too many places come; not so where all is black, but for one cell."""
        lines = (("read", 0, 0, 1), ("write", 0, 0, None), ("drop", 1))
        for standing in (FULL_HANDS, WIDE):
            self.assert_raised(
                TooMany, {"limit": MOST}, woven, book=WHOLE, standing=standing, programs=(lines,) * 4)
        black = (ring(40), (0,) + ("black",) * 38 + ("white",), ((0, 39, None), (38, None)), (True, False))
        programs = (lines, (("read", 0, 0, 1), ("write", 0, 0, None)))
        for book in (WHOLE, PIECES, hybrid(True), steele(False), full("grey", True)):
            self.assert_woven(book, black, programs, Woven(book, black, programs))

    def test_calls_in_every_way(self):
        for (book, standing, programs), model in compared_rows(111, 250)[::12]:
            self.assert_told(len(model.ahead), woven, book=book, standing=standing, programs=programs)
            self.assert_told(model.kept(), kept, book=book, standing=standing, programs=programs)
            self.assert_told(model.unasked(), unasked, book=book, standing=standing, programs=programs)
            self.value_of(may_lose, book=book, standing=standing, programs=programs)

    def test_quickly(self):
        standing = start(((1, 2), (2, None), ()), ((0, None), (0, 1), (1,), (2, 0)), 2)
        programs = ((("read", 0, 0, 1), ("write", 0, 0, None), ("make", 1, 2), ("write", 1, 0, 0), ("drop", 0)),) * 4
        with Quickly(8):
            for book in KNOWN:
                for function in FUNCTIONS:
                    self.assertRaises(TooMany, function, book, standing, programs)


class UnaskedTest(WeaveCase):

    def test_each_entry(self):
        """A program that asks it, and one that does not."""
        first = start(((1, 2), (None,), ()), ((0, 1, 2),), 1)
        for phase in (0, 1):
            looked = first[:3] + ((phase == 1,),)
            for entry, lines in (
                    (("make", phase), (("make", 0, 1),)), (("read", phase, 0), (("read", 0, 0, 0),)),
                    (("write", phase, 0, "old"), (("write", 0, 0, None),)), (("write", phase, 0, "new"), (("write", 0, 0, 2),))):
                book = book_of([entry])
                self.assert_told((), unasked, book=book, standing=looked, programs=(lines,))
                self.assert_told((entry,), unasked, book=book, standing=looked, programs=((("drop", 0), ("copy", 1, 2)),))
            for mark, colour in ((1, 1), ("black", 2)):
                marked = (first[0], (mark,) + first[1][1:]) + looked[2:]
                for entry, line in (
                        (("read", phase, colour), ("read", 0, 1, 0)), (("write", phase, colour, "old"), ("write", 0, 1, None)),
                        (("write", phase, colour, "new"), ("write", 0, 0, 2)), (("write", phase, colour, "again"), ("write", 0, 0, 2))):
                    self.assert_told((), unasked, book=book_of([entry], pieces=True), standing=marked, programs=((line,),))

    def test_the_last_look_is_never_asked(self):
        for book in (bare(True, False), dijkstra(False), full("grey", True)):
            self.assertIn(("last",), self.value_of(unasked, book=book, standing=PAIR, programs=(UNHOOK,)))

    def test_what_is_asked_on_the_way_to_where_lines_are_left(self):
        """All weavings count, to wherever they lead."""
        book = book_of([("write", 1, 1, "old"), ("write", 0, 0, "old")])
        self.assert_told((), unasked, book=book, standing=PAIR, programs=(UNHOOK[1:],))


class WhatHoldsTest(WeaveCase):
    """[I5]"""

    def test_ends_and_next_places(self):
        for (book, standing, programs), model in compared_rows(111, 250)[::2]:
            ends = model.ends()
            self.assertNotEqual(ends, [])
            for place in model.ahead:
                self.assertEqual(list(model.next_places(place)) == [], place in ends)

    def test_safe_books_lose_nothing(self):
        asked = 0
        for book, standing, programs in drawn_rows(113, 250):
            if is_safe(book, len(programs)) and set(standing[1]) <= {"white", "free"} and True not in standing[3]:
                try:
                    asked += 1
                    self.assertIsNone(may_lose(book, standing, programs))
                except TooMany:
                    pass
        self.assertGreater(asked, 20)

    def test_nothing_is_lost_without_lines(self):
        for (book, standing, programs), _ in compared_rows(111, 250):
            heap, marks, hands, looked = standing
            begun = (heap, tuple("free" if mark == "free" else "white" for mark in marks), hands, (False,) * len(looked))
            if len(heap) < 14:
                try:
                    self.assertIsNone(may_lose(book, begun, ((),) * len(hands)))
                except TooMany:
                    pass

    def test_a_line_more(self):
        """What is lost is lost still, and no fewer places come."""
        chance = random.Random(114)
        asked = 0
        for (book, standing, programs), model in compared_rows(111, 250)[::2]:
            hand = chance.randrange(len(programs))
            if len(programs[hand]) < 6:
                more = programs[:hand] + (programs[hand] + (drawn_line(chance),),) + programs[hand + 1:]
                try:
                    many = woven(book, standing, more)
                except TooMany:
                    continue
                self.assertGreaterEqual(many, len(model.ahead))
                if model.shortest_loss() is not None:
                    asked += 1
                    self.assertIsNotNone(may_lose(book, standing, more))
        self.assertGreater(asked, 5)

    def test_what_was_out_of_use_floats_at_no_end(self):
        """So at most as many cells float as could be come to, or made."""
        for (book, standing, programs), model in compared_rows(111, 250):
            if not [mark for mark in standing[1] if mark not in ("white", "free")]:
                spare = [
                    cell for cell, mark in enumerate(standing[1])
                    if mark == "white" and cell not in reached_by_hand(standing)]
                self.assertLessEqual(kept(book, standing, programs)[1], len(standing[0]) - len(spare))
                for behind, _ in model.ends():
                    self.assertTrue(all(behind[1][cell] == "white" for cell in spare))


def reached_by_hand(standing):
    found = {cell for rooms in standing[2] for cell in rooms if cell is not None}
    more = found
    while more:
        more = {named for cell in more for named in standing[0][cell] if named is not None} - found
        found = found | more
    return found


if __name__ == "__main__":
    unittest.main()
