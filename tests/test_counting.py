"""[H1] to [H4]: what a marking costs, and what it keeps."""

import random
import unittest

from guardbooks.counting import counts, left, out_of_use
from guardbooks.ending import finished, is_over, last_look, lost
from guardbooks.errors import Refused, TooMany
from guardbooks.knownbooks import baker, dijkstra, hybrid, steele, yuasa
from guardbooks.moving import led
from guardbooks.standings import start
from guardbooks.sweeping import freed
from tests.bookpool import bare, book_of, full, random_books, told_by
from tests.deedmodel import Marked, quick_run
from tests.standingpool import FULL_HANDS, NAMED, ROW, WIDE, ended, random_standings, ring, small_standings, white
from tests.support import GuardCase, ODD_VALUES, PAIR, Quickly

WHOLE, PIECES = bare(False, False), bare(False, True)
KNOWN = [maker(pieces) for maker in (dijkstra, steele, yuasa, baker, hybrid) for pieces in (False, True)]


class Counted(Marked):
    """A marked heap that counts each shading and each greying where it is done."""

    def __init__(self, standing):
        super().__init__(standing)
        self.shaded = self.greyed = self.opened = 0

    def shade(self, cell):
        done = super().shade(cell)
        if done:
            self.shaded += 1
            self.count_grey(cell)
        return done

    def count_grey(self, cell):
        if self.marks[cell] == 0:
            self.greyed += 1
            self.opened += len(self.heap[cell])

    def make(self, book, hand, i, many):
        cell = self.marks.index("free")
        told = super().make(book, hand, i, many)
        if book[2][int(self.looked[hand])] == "grey":
            self.shaded += 1
            self.count_grey(cell)
        return told

    def write(self, book, hand, i, field, j):
        cell = self.hands[hand][i]
        was = self.marks[cell]
        told = super().write(book, hand, i, field, j)
        if was == "black" and self.marks[cell] == 0:
            self.count_grey(cell)
        elif type(was) is int:
            self.opened += was - self.marks[cell]
        return told


def counted(book, standing, deeds):
    """What [H3] tells, deed by deed."""
    marked, times = Counted(standing), {}
    for deed in deeds:
        for entry in marked.do(book, deed):
            times[entry] = times.get(entry, 0) + 1
    words = [deed[0] for deed in deeds]
    return (
        words.count("look"), words.count("scan"), marked.shaded, marked.greyed, marked.opened,
        tuple(sorted(times.items())))


def standings():
    return [*NAMED, *random_standings(), *list(small_standings())[::40]]


def drawn_runs(seed, many=25):
    """Books, standings of all kinds, and drawn runs."""
    chance = random.Random(seed)
    books = KNOWN + random_books(40) + [full("grey", True), full("grey", False), full("black", True)]
    for standing in [*random_standings(), WIDE, start(PAIR, ((0, None), (2,)), 3), start(ring(5), ((0, 3),), 4)]:
        for book in chance.sample(books, 2):
            yield book, standing, quick_run(chance, book, standing, many)


class LeftTest(GuardCase):

    def test_by_hand(self):
        heap = ((1, 2, None), (None,), (0, 0), (), (3, 3, 3))
        for marks, told in (
                (("white",) * 5, (0, 0)), ((0, "white", "black", "white", "black"), (1, 3)),
                ((2, 0, 1, "black", 1), (4, 5)), ((1, "black", 1, "white", "white"), (2, 3)),
                (("black",) * 5, (0, 0)), ((0, 0, 0, "white", 0), (4, 9))):
            self.assert_told(told, left, standing=(heap, marks, ((None,),), (True,)))

    def test_forty_cells(self):
        self.assert_told((40, 40), left, standing=(WIDE[0], (2,) * 40, WIDE[2], WIDE[3]))
        self.assert_told((40, 120), left, standing=(WIDE[0], (0,) * 40, WIDE[2], WIDE[3]))
        self.assert_told((0, 0), left, standing=((), (), ((None,),), (False,)))

    def test_of_all_kinds(self):
        for standing in standings():
            grey = [(cell, mark) for cell, mark in enumerate(standing[1]) if type(mark) is int]
            fields = sum(len(standing[0][cell][mark:]) for cell, mark in grey)
            self.assert_told((len(grey), fields), left, standing=standing)


class OutOfUseTest(GuardCase):

    def test_by_hand(self):
        heap = ((1,), (None, 1), (0,), (3,), (), ())
        for hands, marks, told in (
                (((None,),), ("white",) * 6, (0, 1, 2, 3, 4, 5)), (((2, None),), ("white",) * 5 + ("free",), (3, 4)),
                (((1,), (4, 3)), ("black", 1, "white", 0, "white", "free"), (0, 2)),
                (((2, 3, 4, 5),), ("black",) * 6, ())):
            self.assert_told(told, out_of_use, standing=(heap, marks, hands, (True,) * len(hands)))

    def test_forty_cells(self):
        self.assert_told(tuple(range(40)), out_of_use, standing=white(ring(40), ((None,),)))
        self.assert_told((), out_of_use, standing=white(ring(40), ((17,),)))
        self.assert_told((), out_of_use, standing=start((), ((None,),), 40))

    def test_of_all_kinds(self):
        for standing in standings():
            used = Marked(standing).come_to()
            told = tuple(cell for cell, mark in enumerate(standing[1]) if mark != "free" and cell not in used)
            self.assert_told(told, out_of_use, standing=standing)


class CountsTest(GuardCase):

    def test_no_deeds(self):
        for standing in (ROW, FULL_HANDS):
            self.assert_told((0, 0, 0, 0, 0, ()), counts, book=full("grey", True), standing=standing, deeds=())

    def test_made_cells(self):
        """What is made grey is shaded, and grey if it has fields; what is made black is not shaded."""
        first = start((), ((None,),), 2)
        for made, many, told in (
                ("white", 0, (0, 0, 0)), ("white", 2, (0, 0, 0)), ("grey", 0, (1, 0, 0)), ("grey", 1, (1, 1, 1)),
                ("grey", 3, (1, 1, 3)), ("black", 0, (0, 0, 0)), ("black", 3, (0, 0, 0))):
            for phase in (0, 1):
                makes = tuple(made if other == phase else "white" for other in (0, 1))
                book = WHOLE[:2] + (makes,) + WHOLE[3:]
                asked = () if made == "white" else ((("make", phase), 1),)
                deeds = (("make", 0, 0, many),)
                standing = first if phase == 0 else led(WHOLE, first, (("look", 0),))
                self.assert_told((0, 0) + told + (asked,), counts, book=book, standing=standing, deeds=deeds)

    def test_looks_and_scans(self):
        heap = ((1, 2), (3, None), (), (), (0,))
        first = white(heap, ((0, 2), (None, 0), (3, 4)))
        looks = (("look", 0), ("look", 1), ("look", 2))
        self.assert_told((1, 0, 2, 1, 2, ()), counts, book=WHOLE, standing=first, deeds=looks[:1])
        self.assert_told((3, 0, 4, 2, 3, ()), counts, book=WHOLE, standing=first, deeds=looks)
        self.assert_told((3, 1, 5, 3, 5, ()), counts, book=WHOLE, standing=first, deeds=looks + (("scan", 0),))
        self.assert_told(
            (3, 5, 5, 3, 5, ()), counts, book=PIECES, standing=first,
            deeds=looks + (("scan", 0), ("scan", 0), ("scan", 1), ("scan", 4), ("scan", 1)))

    def test_again_upon_grey_cells_and_black_ones(self):
        again = book_of([("write", 1, colour, "again") for colour in (1, 2)], pieces=True)
        heap = ((None, 2, None), (None, None), ())
        write = ("write", 0, 0, 0, 1)
        for mark, told, asked in (
                (0, (0, 0, 0), False), (1, (0, 0, 1), 1), (2, (0, 0, 2), 1), ("black", (0, 1, 3), 2), ("white", (0, 0, 0), False)):
            standing = (heap, (mark, "white", "white"), ((0, 2),), (True,))
            told_asked = ((("write", 1, asked, "again"), 1),) if asked else ()
            self.assert_told((0, 0) + told + (told_asked,), counts, book=again, standing=standing, deeds=(write,))
        half = (heap, (2, "white", "white"), ((0, 2),), (True,))
        deeds = (write, ("scan", 0), ("write", 0, 0, 2, 1), ("write", 0, 0, 0, None), ("write", 0, 0, 0, 1))
        # The scan shades the cell 2: so nothing that is written behind it is white.
        self.assert_told((0, 1, 1, 0, 2, ((("write", 1, 1, "again"), 1),)), counts, book=again, standing=half, deeds=deeds)

    def test_guards_are_asked_more_than_once(self):
        standing = start(((1, 2), (None,), ()), ((0, None),), 0)
        book = book_of([("read", 0, 0), ("write", 0, 0, "old"), ("write", 0, 0, "new")])
        deeds = (("read", 0, 0, 0, 1), ("read", 0, 0, 0, 1), ("write", 0, 0, 1, 1), ("read", 0, 0, 1, 1))
        self.assert_told(
            (0, 0, 2, 1, 1, ((("read", 0, 0), 1), (("write", 0, 0, "old"), 1))),
            counts, book=book, standing=standing, deeds=deeds)
        makes = (("make", 0, 0, 1),) * 5
        self.assert_told(
            (0, 0, 5, 5, 5, ((("make", 0), 5),)),
            counts, book=full("grey", False), standing=start((), ((None,),), 5), deeds=makes)

    def test_of_all_kinds(self):
        for book, standing, deeds in drawn_runs(91):
            self.assertEqual(repr(counts(book, standing, deeds)), repr(counted(book, standing, deeds)))

    def test_refused(self):
        first = start(PAIR, ((0, None),), 1)
        for deeds, wrong in (
                ((("scan", 0),), 0), ((("look", 0), ("look", 0)), 1), ((("drop", 0, 0), ("read", 0, 0, 0, 0), None), 1),
                ((None,), 0), ((("look", 0), ["drop", 0, 0]), 1), (("look", ("look", 0)), 0)):
            self.assert_raised(Refused, {"deed": deeds[wrong]}, counts, book=WHOLE, standing=first, deeds=deeds)
        for value in ODD_VALUES:
            self.assert_raised(Refused, {"deed": value}, counts, book=PIECES, standing=first, deeds=(("look", 0), value))

    def test_how_many_deeds(self):
        first = start(PAIR, ((0, None),), 1)
        deeds = (("look", 0),) + (("copy", 0, 0, 1), ("drop", 0, 1)) * 200
        self.assert_told((1, 0, 1, 1, 2, ()), counts, book=WHOLE, standing=first, deeds=deeds[:400])
        self.assert_raised(TooMany, {"limit": 400}, counts, book=WHOLE, standing=first, deeds=deeds[:401])
        self.assert_raised(TooMany, {"limit": 400}, counts, book=WHOLE, standing=first, deeds=(None,) * 401)
        self.assert_raised(Refused, {"deed": None}, counts, book=WHOLE, standing=first, deeds=(None,) * 400)

    def test_calls_in_every_way(self):
        for book, standing, deeds in list(drawn_runs(92))[::15]:
            self.assert_told(counted(book, standing, deeds), counts, book=book, standing=standing, deeds=deeds)

    def test_four_hundred_deeds_over_forty_cells_quickly(self):
        standing = (ring(36) + ((),) * 4, ("white",) * 36 + ("free",) * 4, ((0, 9, 20, None),) * 4, (False,) * 4)
        deeds = quick_run(random.Random(93), hybrid(True), standing, 450)[:400]
        self.assertEqual(len(deeds), 400)
        self.assertEqual(counts(hybrid(True), standing, deeds), counted(hybrid(True), standing, deeds))
        with Quickly(5):
            for _ in range(10):
                counts(hybrid(True), standing, deeds)


class WhatHoldsTest(GuardCase):
    """[H4], along drawn runs."""

    def test_balance(self):
        for book, standing, deeds in drawn_runs(94):
            (g, f), (h, e) = left(standing), left(led(book, standing, deeds))
            _, scans, _, greyed, opened, _ = counts(book, standing, deeds)
            self.assertEqual(scans, opened + f - e if book[4] else greyed + g - h)

    def test_balance_of_whole_markings(self):
        for book, standing, deeds in drawn_runs(95, 10):
            rest, end = finished(book, led(book, standing, deeds))
            g, f = left(standing)
            _, scans, _, greyed, opened, _ = counts(book, standing, deeds + rest)
            self.assertEqual(left(end), (0, 0))
            self.assertEqual(scans, opened + f if book[4] else greyed + g)

    def test_how_often_things_are_done(self):
        for book, standing, deeds in drawn_runs(96):
            begun = standing[:1] + (tuple("free" if mark == "free" else "white" for mark in standing[1]),) + standing[2:]
            many = len(standing[0])
            for first, run in ((standing, deeds), (begun, finished(book, begun)[0])):
                _, scans, shaded, greyed, opened, _ = counts(book, first, run)
                self.assertLessEqual(shaded, many)
                if "again" not in [entry[-1] for entry in told_by(book)]:
                    behind = led(book, first, run)
                    self.assertLessEqual(greyed, many)
                    self.assertLessEqual(opened, sum(len(fields) for fields in behind[0]))
                    if left(first) == (0, 0):
                        self.assertLessEqual(scans, sum(len(fields) for fields in behind[0]) if book[4] else many)

    def test_runs_parted_in_two_add_up(self):
        chance = random.Random(97)
        for book, standing, deeds in drawn_runs(98):
            at = chance.randint(0, len(deeds))
            one = counts(book, standing, deeds[:at])
            other = counts(book, led(book, standing, deeds[:at]), deeds[at:])
            asked = dict(one[5])
            for entry, many in other[5]:
                asked[entry] = asked.get(entry, 0) + many
            added = tuple(one[place] + other[place] for place in range(5)) + (tuple(sorted(asked.items())),)
            self.assertEqual(counts(book, standing, deeds), added)

    def test_what_is_out_of_use_when_a_marking_begins_is_swept_at_its_end(self):
        swept = 0
        for book, standing, _ in drawn_runs(99, 0):
            heap, marks, hands, looked = standing
            first = (heap, tuple("free" if mark == "free" else "white" for mark in marks), hands, looked)
            deeds = quick_run(random.Random(len(heap)), book, first, 20)
            spare = out_of_use(first)
            for at in range(len(deeds) + 1):
                behind = led(book, first, deeds[:at])
                self.assertTrue(all(behind[1][cell] == "white" for cell in spare))
                self.assertFalse(set(spare) & {cell for rooms in behind[2] for cell in rooms})
            end = finished(book, led(book, first, deeds))[1]
            self.assertTrue(is_over(end))
            self.assertTrue(all(last_look(book, end)[1][cell] == "white" for cell in spare))
            self.assertFalse(set(spare) & set(lost(book, end)))
            if not lost(book, end):
                swept += len(spare)
                self.assertLessEqual(set(spare), set(freed(book, end)))
        self.assertGreater(swept, 50)

    def test_what_is_over_has_nothing_left(self):
        for standing in [ended(one) for one in standings()]:
            self.assertEqual(left(standing), (0, 0))


if __name__ == "__main__":
    unittest.main()
