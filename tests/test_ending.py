"""[D2], [D3], and of [D5] what is said of the end of a marking."""

import random
import unittest

from guardbooks.ending import finished, floating, is_over, last_look, lost, next_scans
from guardbooks.errors import Unfit
from guardbooks.knownbooks import baker, dijkstra, hybrid, steele, yuasa
from guardbooks.moving import led
from guardbooks.reaching import reached
from guardbooks.standings import standing_error, start
from tests.bookpool import bare, full, random_books
from tests.deedmodel import Marked, cells_in_the_end, random_run
from tests.standingpool import FULL_HANDS, NAMED, ROW, SELVES, WIDE, ended, random_standings, ring, small_standings, white
from tests.support import GuardCase, PAIR, Quickly, STANDING

WHOLE, PIECES, AGAIN, BOTH = bare(False, False), bare(False, True), bare(True, False), bare(True, True)
PLAIN = (WHOLE, PIECES, AGAIN, BOTH)
BOOKS = [*PLAIN, full("grey", True), full("black", False)] + [
    maker(pieces) for maker in (dijkstra, steele, yuasa, baker, hybrid) for pieces in (False, True)]


def all_standings():
    return [*NAMED, *random_standings(), *list(small_standings())[::20]]


def over_standings():
    """Standings that are over, of all kinds, whether a run leads to them or not."""
    return [ended(standing) for standing in all_standings()]


def run_standings():
    """Standings in which random runs of random books ended, each with its book."""
    chance = random.Random(31)
    begun = [start(((1, 2), (2,), (), (0,)), ((0, None), (1,)), 3), start(PAIR, ((0, None),), 1),
             start(ring(5), ((0, 2), (None, None), (4,)), 2), start((), ((None, None),), 2)]
    for book in BOOKS + random_books(40):
        for standing in begun:
            deeds = random_run(chance, book, standing, 25)
            yield book, finished(book, led(book, standing, deeds))[1]


class IsOverTest(GuardCase):

    def test_by_marks_and_looks(self):
        heap = ((1, None), (), (None, None, None))
        for marks in (("white", "white", "white"), ("black", "black", "black"), ("black", "free", "white")):
            for looked in ((True, True), (True, False), (False, True), (False, False)):
                standing = (heap, marks, ((None,), (0,)), looked)
                self.assert_told(looked == (True, True), is_over, standing=standing)
                self.assert_told((), next_scans, standing=standing)
        for marks, grey in (
                ((0, "white", "white"), (0,)), (("black", "white", 2), (2,)), ((1, "free", 0), (0, 2)),
                (("white", "white", 1), (2,))):
            for looked in ((True, True), (False, True)):
                standing = (heap, marks, ((None,), (0,)), looked)
                self.assert_told(False, is_over, standing=standing)
                self.assert_told(grey, next_scans, standing=standing)

    def test_of_starts(self):
        for hands in (((None,),), ((0, 1),), ((None,),) * 4):
            self.assert_told(False, is_over, standing=start(PAIR, hands, 2))
            self.assert_told((), next_scans, standing=start(PAIR, hands, 2))

    def test_without_cells(self):
        self.assert_told(True, is_over, standing=((), (), ((None,),), (True,)))
        self.assert_told(False, is_over, standing=((), (), ((None,),), (False,)))

    def test_forty_grey_cells(self):
        standing = (WIDE[0], (2,) * 40, WIDE[2], (True,) * 4)
        self.assert_told(tuple(range(40)), next_scans, standing=standing)
        self.assert_told(False, is_over, standing=standing)

    def test_of_all_kinds(self):
        for standing in all_standings():
            grey = tuple(cell for cell, mark in enumerate(standing[1]) if type(mark) is int)
            self.assertEqual(next_scans(standing), grey)
            self.assertIs(is_over(standing), not grey and False not in standing[3])
            self.assertIs(is_over(ended(standing)), True)


class FinishedTest(GuardCase):

    def assert_finished(self, book, standing):
        deeds, behind = finished(book, standing)
        marked, expected = Marked(standing), []
        for hand, looked in enumerate(standing[3]):
            if not looked:
                expected.append(("look", hand))
                marked.do(book, expected[-1])
        while not marked.over():
            cell = min(at for at, mark in enumerate(marked.marks) if type(mark) is int)
            expected.append(("scan", cell))
            marked.do(book, expected[-1])
        self.assertEqual(repr(deeds), repr(tuple(expected)))
        self.assertEqual(repr(behind), repr(marked.standing()))

    def test_of_all_kinds(self):
        for standing in all_standings():
            for book in BOOKS[:6]:
                self.assert_finished(book, standing)

    def test_by_hand(self):
        heap = ((2, None, 3), (0,), (1, 3), (), ())
        standing = (heap, ("white", "white", 1, "white", "free"), ((3,), (1, None)), (False, True))
        whole = (("look", 0), ("scan", 2), ("scan", 1), ("scan", 0))
        self.assert_told(
            ((("look", 0), ("scan", 2)), (heap, ("white", "white", "black", "black", "free"), standing[2], (True, True))),
            finished, book=PIECES, standing=standing)
        self.assert_told(
            ((whole[0], whole[1], ("scan", 1), ("scan", 0)),
             (heap, ("black", "black", "black", "black", "free"), standing[2], (True, True))),
            finished, book=AGAIN, standing=standing)

    def test_the_least_grey_cell_comes_first(self):
        heap = ((), (2, 0), (None,), (1,))
        standing = (heap, ("white", "white", "white", 0), ((None,),), (True,))
        deeds = (("scan", 3), ("scan", 1), ("scan", 1), ("scan", 2))
        self.assert_told(deeds, lambda book, standing: finished(book, standing)[0], book=PIECES, standing=standing)

    def test_what_is_over_is_finished(self):
        for standing in over_standings():
            self.assertEqual(finished(PIECES, standing), ((), standing))

    def test_as_many_deeds_as_can_be(self):
        """Four looks, and forty cells of three fields each."""
        heap = tuple(((cell + 1) % 40,) * 3 for cell in range(40))
        standing = white(heap, ((None, 0),) + ((5, None),) * 3)
        deeds, behind = self.value_of(finished, book=PIECES, standing=standing)
        self.assertEqual(len(deeds), 124)
        self.assertEqual(behind, (heap, ("black",) * 40, standing[2], (True,) * 4))
        self.assertEqual(len(finished(WHOLE, standing)[0]), 44)

    def test_calls_in_every_way(self):
        for standing in (STANDING, ROW, SELVES, FULL_HANDS):
            for book in (WHOLE, full("black", True)):
                deeds, behind = self.value_of(finished, book=book, standing=standing)
                self.assert_told(behind, led, book=book, standing=standing, deeds=deeds)

    def test_quickly(self):
        standing = white(tuple(((cell + 1) % 40,) * 3 for cell in range(40)), ((0,),) * 4)
        with Quickly(10):
            for _ in range(10):
                finished(PIECES, standing)


class FinishedHoldsTest(GuardCase):
    """[D5], the first two points."""

    def test_the_deeds_lead_to_an_end_and_change_marks_alone(self):
        for standing in all_standings():
            for book in (WHOLE, PIECES):
                deeds, behind = finished(book, standing)
                self.assertLessEqual(len(deeds), 124)
                self.assertEqual(led(book, standing, deeds), behind)
                self.assertTrue(is_over(behind))
                self.assertIsNone(standing_error(behind))
                self.assertEqual((behind[0], behind[2]), (standing[0], standing[2]))

    def test_each_grey_cell_is_scanned_for_each_field_that_is_left(self):
        for standing in all_standings():
            for book in (WHOLE, PIECES):
                deeds, behind = finished(book, standing)
                for cell, mark in enumerate(standing[1]):
                    scans = deeds.count(("scan", cell))
                    fields = len(standing[0][cell])
                    if type(mark) is int:
                        self.assertEqual(scans, fields - mark if book[4] else 1)
                    elif mark == "white" and behind[1][cell] == "black":
                        self.assertEqual(scans, fields if book[4] else min(fields, 1))
                    else:
                        self.assertEqual(scans, 0)

    def test_any_order_takes_as_many_scans_to_the_same_end(self):
        chance = random.Random(32)
        for standing in all_standings()[::3]:
            for book in (WHOLE, PIECES):
                marked, many = Marked(standing), 0
                while not marked.over():
                    rows = [("look", hand) for hand, looked in enumerate(marked.looked) if not looked]
                    rows += [("scan", cell) for cell, mark in enumerate(marked.marks) if type(mark) is int]
                    marked.do(book, chance.choice(rows))
                    many += 1
                deeds, behind = finished(book, standing)
                self.assertEqual((len(deeds), behind), (many, marked.standing()))

    def test_what_stays_white(self):
        for standing in all_standings():
            heap, marks, hands, looked = standing
            for book in (WHOLE, PIECES):
                led_to = [cell for rooms, was in zip(hands, looked) if not was for cell in rooms]
                for cell, mark in enumerate(marks):
                    if type(mark) is int:
                        led_to += heap[cell][mark if book[4] else 0:]
                found = set()
                while led_to:
                    cell = led_to.pop()
                    if cell is not None and marks[cell] == "white" and cell not in found:
                        found.add(cell)
                        led_to += heap[cell]
                behind = finished(book, standing)[1]
                for cell, mark in enumerate(marks):
                    self.assertEqual(behind[1][cell] == "white", mark == "white" and cell not in found)


class LastLookTest(GuardCase):

    def test_unfit(self):
        for standing in (
                start(PAIR, ((0,),), 1), STANDING, white(PAIR, ((None,),)),
                (PAIR, (0, "white", "white"), ((0,),), (True,)), (PAIR, ("black",) * 3, ((0,), (1,)), (True, False)),
                (PAIR, ("black", 0, "black"), ((0,),), (False,)), ((), (), ((None,),), (False,))):
            for book in PLAIN:
                for function in (last_look, lost, floating):
                    self.assert_raised(Unfit, {}, function, book=book, standing=standing)

    def test_unfit_exactly_where_it_is_not_over(self):
        for standing in all_standings():
            if not is_over(standing):
                for function in (last_look, lost, floating):
                    self.assertRaises(Unfit, function, AGAIN, standing)
                    self.assertRaises(Unfit, function, WHOLE, standing)

    def test_without_one(self):
        for standing in over_standings():
            self.assertEqual(last_look(WHOLE, standing), standing)
            self.assertEqual(last_look(PIECES, standing), standing)

    def test_what_is_held_and_what_it_leads_to(self):
        heap = ((1, 2), (None, 3), (4,), (), (0, None), (5,), (6,), (7, 7, 7), ())
        marks = ("black", "white", "white", "white", "white", "white", "black", "white", "white")
        for hands, behind in (
                (((None,),), {}), (((1,),), {1, 3}), (((None, 2), (3,)), {2, 4, 3}), (((0, 6),), set()),
                (((5, None, 7, 5), (None,)), {5, 7}), (((8,),), {8}),
                # What is black already is not gone through again: the cell 1 stays white.
                (((4,),), {4})):
            standing = (heap, marks, hands, (True,) * len(hands))
            expected = tuple("black" if cell in behind else mark for cell, mark in enumerate(marks))
            for book in (AGAIN, BOTH, full("grey", True), dijkstra(False)):
                self.assert_told((heap, expected) + standing[2:], last_look, book=book, standing=standing)

    def test_of_all_kinds(self):
        for standing in over_standings():
            for book in (AGAIN, BOTH):
                marked = Marked(standing)
                marked.last_look(book)
                self.assertEqual(repr(last_look(book, standing)), repr(marked.standing()))
                self.assertTrue(is_over(last_look(book, standing)))
                self.assertEqual(last_look(book, last_look(book, standing)), last_look(book, standing))


class LostAndFloatingTest(GuardCase):

    def test_by_hand(self):
        heap = ((1,), (2, None), (), (0,), ())
        for marks, hands, cells, kept in (
                (("black",) * 4 + ("free",), ((3,),), (), ()), (("black",) * 4 + ("free",), ((0,),), (), (3,)),
                (("black", "white", "white", "white", "free"), ((0,),), (1, 2), ()),
                (("black", "black", "white", "white", "free"), ((0, 2),), (2,), ()),
                (("white",) * 4 + ("free",), ((None, None),), (), ()),
                (("black",) * 4 + ("free",), ((None, None),), (), (0, 1, 2, 3)),
                (("white", "black", "white", "black", "free"), ((2,),), (2,), (1, 3))):
            standing = (heap, marks, hands, (True,))
            for book in (WHOLE, PIECES):
                self.assert_told(cells, lost, book=book, standing=standing)
                self.assert_told(kept, floating, book=book, standing=standing)

    def test_with_a_last_look(self):
        heap = ((1,), (2, None), (), (0,), ())
        for marks, hands, cells, kept in (
                (("black", "white", "white", "white", "free"), ((0,),), (1, 2), ()),
                (("black", "white", "white", "white", "free"), ((0, 1),), (), ()),
                (("white",) * 4 + ("free",), ((0, None), (3,)), (), ()),
                (("black", "black", "white", "white", "free"), ((1,),), (2,), (0,)),
                (("black", "white", "white", "white", "free"), ((3,),), (1, 2), ())):
            standing = (heap, marks, hands, (True,) * len(hands))
            for book in (AGAIN, BOTH):
                self.assert_told(cells, lost, book=book, standing=standing)
                self.assert_told(kept, floating, book=book, standing=standing)

    def test_of_all_kinds(self):
        for standing in over_standings():
            for book in PLAIN:
                self.assertEqual(lost(book, standing), cells_in_the_end(book, standing, "white", True))
                self.assertEqual(floating(book, standing), cells_in_the_end(book, standing, "black", False))

    def test_of_runs(self):
        found = {}
        for book, standing in run_standings():
            cells = lost(book, standing)
            found[cells != ()] = True
            self.assertEqual(cells, cells_in_the_end(book, standing, "white", True))
            self.assertEqual(floating(book, standing), cells_in_the_end(book, standing, "black", False))
        self.assertEqual(len(found), 2)

    def test_only_the_last_look_of_the_book_counts(self):
        for standing in over_standings()[::4]:
            for book in BOOKS:
                plain = AGAIN if book[3] else WHOLE
                self.assertEqual(lost(book, standing), lost(plain, standing))
                self.assertEqual(floating(book, standing), floating(plain, standing))

    def test_nothing_is_lost_if_all_that_hands_come_to_is_black(self):
        for standing in over_standings():
            for book in (WHOLE, AGAIN):
                behind = last_look(book, standing)
                black = [cell for cell in reached(standing) if behind[1][cell] != "black"] == []
                self.assertEqual(lost(book, standing) == (), black)

    def test_calls_in_every_way(self):
        for standing in [ended(one) for one in (STANDING, ROW, FULL_HANDS, WIDE)]:
            for book in (WHOLE, BOTH):
                self.assert_told(cells_in_the_end(book, standing, "white", True), lost, book=book, standing=standing)
                self.assert_told(
                    cells_in_the_end(book, standing, "black", False), floating, book=book, standing=standing)


if __name__ == "__main__":
    unittest.main()
