"""[D4], and of [D5] what is said of sweeping."""

import unittest

from guardbooks.ending import finished, floating, is_over, lost
from guardbooks.errors import Lost, Unfit
from guardbooks.knownbooks import baker, dijkstra, hybrid, steele, yuasa
from guardbooks.reaching import reached
from guardbooks.standings import standing_error, start
from guardbooks.sweeping import freed, swept
from tests.bookpool import bare
from tests.deedmodel import cells_in_the_end
from tests.standingpool import FULL_HANDS, ROW, ended, random_standings, white
from tests.support import GuardCase, PAIR, STANDING
from tests.test_ending import AGAIN, BOTH, PIECES, PLAIN, WHOLE, all_standings, over_standings, run_standings


def swept_by_hand(book, standing):
    """What [D4] tells, cell by cell."""
    heap, marks, hands, _ = standing
    gone = cells_in_the_end(book, standing, "white", False)
    return (
        tuple(() if cell in gone else tuple(None if named in gone else named for named in fields)
              for cell, fields in enumerate(heap)),
        tuple("free" if cell in gone or marks[cell] == "free" else "white" for cell in range(len(heap))),
        hands, tuple(False for _ in hands))


class SweepingTest(GuardCase):

    def test_unfit(self):
        for standing in (
                start(PAIR, ((0,),), 1), STANDING, white(PAIR, ((None,),)), (PAIR, (0, "white", "white"), ((0,),), (True,)),
                (PAIR, ("black",) * 3, ((0,), (1,)), (False, True))):
            for book in PLAIN:
                for function in (freed, swept):
                    self.assert_raised(Unfit, {}, function, book=book, standing=standing)
        for standing in all_standings():
            if not is_over(standing):
                self.assertRaises(Unfit, freed, WHOLE, standing)
                self.assertRaises(Unfit, swept, AGAIN, standing)

    def test_lost(self):
        heap = ((1,), (2, None), (), (0,), ())
        for marks, hands, cells, with_last in (
                (("black", "white", "white", "black", "free"), ((0,),), (1, 2), (1, 2)),
                (("black", "white", "white", "black", "free"), ((0, 2),), (1, 2), (1,)),
                (("white", "white", "white", "white", "free"), ((3,),), (0, 1, 2, 3), ())):
            standing = (heap, marks, hands, (True,))
            for book, told in ((WHOLE, cells), (PIECES, cells), (AGAIN, with_last), (BOTH, with_last)):
                for function in (freed, swept):
                    if told:
                        self.assert_raised(Lost, {"cells": told}, function, book=book, standing=standing)
                    else:
                        self.assertEqual(self.outcome_of(function, book=book, standing=standing)[0], "value")

    def test_by_hand(self):
        heap = ((1, 4), (None,), (1,), (0, 2, 3), (), (5,), (), ())
        marks = ("black", "black", "white", "white", "black", "black", "free", "white")
        standing = (heap, marks, ((0, None), (4,)), (True, True))
        for book in PLAIN:
            self.assert_told((2, 3, 7), freed, book=book, standing=standing)
            self.assert_told(
                (((1, 4), (None,), (), (), (), (5,), (), ()),
                 ("white", "white", "free", "free", "white", "white", "free", "free"), ((0, None), (4,)), (False, False)),
                swept, book=book, standing=standing)

    def test_fields_that_named_what_goes(self):
        """By a book that is not safe a black cell to which nobody comes may name what goes."""
        heap = ((None,), (2, 0, 2), (1,))
        standing = (heap, ("black", "black", "white"), ((0,),), (True,))
        self.assert_told(
            (((None,), (None, 0, None), ()), ("white", "white", "free"), ((0,),), (False,)),
            swept, book=WHOLE, standing=standing)

    def test_nothing_and_everything_goes(self):
        kept = (FULL_HANDS[0], ("black",) * 40, FULL_HANDS[2], (True,) * 4)
        self.assert_told((), freed, book=WHOLE, standing=kept)
        self.assert_told(FULL_HANDS, swept, book=WHOLE, standing=kept)
        gone = (FULL_HANDS[0], ("white",) * 40, ((None,) * 4,) * 4, (True,) * 4)
        self.assert_told(tuple(range(40)), freed, book=AGAIN, standing=gone)
        self.assert_told(
            (((),) * 40, ("free",) * 40, ((None,) * 4,) * 4, (False,) * 4), swept, book=AGAIN, standing=gone)
        empty = ((), (), ((None,),), (True,))
        self.assert_told((), freed, book=WHOLE, standing=empty)
        self.assert_told(((), (), ((None,),), (False,)), swept, book=WHOLE, standing=empty)

    def test_what_the_last_look_finds_stays(self):
        heap = ((1,), (), (0,), ())
        standing = (heap, ("white",) * 4, ((0,),), (True,))
        self.assert_told((2, 3), freed, book=AGAIN, standing=standing)
        self.assert_told(
            (((1,), (), (), ()), ("white", "white", "free", "free"), ((0,),), (False,)),
            swept, book=AGAIN, standing=standing)
        self.assert_raised(Lost, {"cells": (0, 1)}, swept, book=WHOLE, standing=standing)

    def test_of_all_kinds(self):
        swept_ones = 0
        for standing in over_standings():
            for book in PLAIN:
                cells = cells_in_the_end(book, standing, "white", True)
                if cells:
                    for function in (freed, swept):
                        with self.assertRaises(Lost) as caught:
                            function(book, standing)
                        self.assertEqual(caught.exception.cells, cells)
                else:
                    swept_ones += 1
                    self.assertEqual(freed(book, standing), cells_in_the_end(book, standing, "white", False))
                    self.assertEqual(repr(swept(book, standing)), repr(swept_by_hand(book, standing)))
        self.assertGreater(swept_ones, 100)

    def test_calls_in_every_way(self):
        for standing in [ended(ROW), (ROW[0], ("black",) * 40, ROW[2], (True,))]:
            for book in PLAIN:
                kind, told = self.outcome_of(swept, book=book, standing=standing)
                self.assertEqual(kind == "value", not cells_in_the_end(book, standing, "white", True))


class WhatHoldsTest(GuardCase):
    """[D5], the last point."""

    def swept_ones(self):
        rows = list(run_standings())
        rows += [(book, standing) for standing in over_standings() for book in (WHOLE, BOTH)]
        return [(book, standing) for book, standing in rows if lost(book, standing) == ()]

    def test_what_hands_come_to_stays_as_it_is(self):
        for book, standing in self.swept_ones():
            behind = swept(book, standing)
            self.assertIsNone(standing_error(behind))
            self.assertEqual(reached(behind), reached(standing))
            for cell in reached(standing):
                self.assertEqual(behind[0][cell], standing[0][cell])
            for cell, mark in enumerate(standing[1]):
                self.assertIn(behind[1][cell], ("free",) if mark == "free" else ("white", "free"))
            self.assertNotIn(True, behind[3])

    def test_what_floated_is_swept_at_the_end_of_the_next_marking(self):
        floated = 0
        for book, standing in self.swept_ones():
            kept = floating(book, standing)
            floated += len(kept)
            next_end = finished(book, swept(book, standing))[1]
            self.assertEqual(freed(book, next_end), kept)
            self.assertEqual(floating(book, next_end), ())
        self.assertGreater(floated, 20)

    def test_a_marking_during_which_nobody_does_anything_frees_what_is_out_of_use(self):
        books = [maker(pieces) for maker in (dijkstra, steele, yuasa, baker, hybrid) for pieces in (False, True)]
        for standing in random_standings()[::2]:
            heap, marks, hands, looked = standing
            begun = (heap, tuple("free" if mark == "free" else "white" for mark in marks), hands, (False,) * len(looked))
            for book in books[::3] + [bare(False, False)]:
                end = finished(book, begun)[1]
                used = reached(begun)
                out = tuple(cell for cell, mark in enumerate(marks) if mark != "free" and cell not in used)
                self.assertEqual(freed(book, end), out)


if __name__ == "__main__":
    unittest.main()
