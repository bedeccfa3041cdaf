"""[F1], [F2], [F3], [F4]: runs that lose a cell, and which values are such runs."""

import itertools
import random
import unittest

from guardbooks.knownbooks import baker, dijkstra, hybrid, steele, yuasa
from guardbooks.leastbooks import least_books
from guardbooks.losing import losing
from guardbooks.losingjudge import losing_error
from guardbooks.standings import standing_error
from tests.bookpool import bare, book_of, full, pool, told_by
from tests.deedmodel import Marked, cells_in_the_end, fault
from tests.safetymodel import EARLY, inserts, near_books, starts_early_by, ways_of
from tests.standingpool import white
from tests.support import GuardCase, ODD_VALUES, Quickly

HANDS = (1, 2, 3, 4)
KNOWN = [maker(pieces) for maker in (dijkstra, steele, yuasa, baker, hybrid) for pieces in (False, True)]
PLAIN = bare(False, False)
MADE = ((), ((None,),), 1, (("look", 0), ("make", 0, 0, 0)))


def started(value):
    """The start of a quadruple, None if there is none."""
    heap, rooms, many, _ = value
    if type(many) is not int or many < 0 or type(heap) is not tuple or len(heap) + many > 40:
        return None
    if type(rooms) is not tuple or standing_error(white(heap, ((None,),))) is not None:
        return None
    heap, marks = heap + ((),) * many, ("white",) * len(heap) + ("free",) * many
    standing = (heap, marks, rooms, (False,) * len(rooms))
    return standing if standing_error(standing) is None else None


def judged(book, hands, value):
    """What [F3] tells of value."""
    if type(value) is not tuple or len(value) != 4 or type(value[3]) is not tuple:
        return "form"
    standing = started(value)
    if standing is None:
        return "start"
    if len(value[1]) != hands:
        return "hands"
    if len(value[3]) > 400:
        return "many"
    marked = Marked(standing)
    for place, deed in enumerate(value[3]):
        if fault(marked.standing(), deed) is not None:
            return ("deed", place)
        marked.do(book, deed)
    if not marked.over():
        return "over"
    return None if cells_in_the_end(book, marked.standing(), "white", True) else "kept"


def case_of(book, hands):
    """Which of the runs of [F5] a book that is not safe wants, and how far what it hides behind is gone through."""
    told, pieces = told_by(book), book[4]

    def gone(phase):
        black = ("write", phase, 2, "new") in told or ("write", phase, 2, "again") in told
        return "half" if black else "black"

    if not inserts(told, 0, pieces) and hands > 1:
        return ("several", gone(0))
    if not inserts(told, 0, pieces) and starts_early_by(told):
        early = [entry for entry in EARLY if entry in told]
        return ("early", gone(0), tuple(early) if len(early) == 1 else len(early), book[2][0])
    last = gone(1) if book[3] else None
    if ("make", 1) not in told:
        return ("made", last)
    grey = [("write", phase, 1, "old") in told for phase in ((1,) if hands == 1 else (1, 0))]
    white_ones = [("write", phase, 0, "old") in told for phase in ((1,) if hands == 1 else (1, 0))]
    return ("read", grey.index(False), last) if False in grey else ("deeper", white_ones.index(False), last)


class LosingTest(GuardCase):

    def assert_losing(self, book, hands):
        run = losing(book, hands)
        if ways_of(book, hands):
            self.assertIsNone(run)
            return None
        self.assertEqual([type(item) for item in run], [tuple, tuple, int, tuple])
        self.assertIsNone(judged(book, hands, run), (book, hands, run))
        self.assertIsNone(losing_error(book, hands, run))
        self.assertLessEqual(len(run[0]) + run[2], 4)
        self.assertLessEqual(len(run[3]), 20)
        self.assertEqual(len(run[1]), hands)
        return run

    def test_near_ones(self):
        for book in near_books(random.Random(61), 1000):
            for hands in (1, 2):
                self.assert_losing(book, hands)

    def test_all_that_tells_the_runs_apart(self):
        """Closed books of all kinds: each kind of run comes up, and is right."""
        found = {}
        olds = [("write", phase, colour, "old") for phase in (0, 1) for colour in (0, 1)]
        words = [(), ("new",), ("again",)]
        for at_grey, at_black, shaded, last, pieces, makes in itertools.product(
                words, words, (False, True), (False, True), (False, True), ("white", "grey", "black")):
            told = [("write", 0, 1, "new"), ("write", 0, 2, "again")]
            told += [("write", 1, 1, word) for word in at_grey] + [("write", 1, 2, word) for word in at_black]
            told += [("read", 1, 0)] if shaded else []
            told += [("last",)] if last else []
            told += [("make", 1)] if makes != "white" else []
            for kept in itertools.product((False, True), repeat=4):
                rest = [entry for entry, there in zip(olds, kept) if there]
                book = book_of(told + rest, ("white", makes), pieces)
                for hands in (1, 2):
                    if self.assert_losing(book, hands) is not None:
                        found[case_of(book, hands)] = True
        expected = {("made", last) for last in (None, "half", "black")}
        expected |= set(itertools.product(("read", "deeper"), (0, 1), (None, "half", "black")))
        self.assertEqual(set(found), expected)

    def test_one_hand_that_starts_early(self):
        """Each entry that starts early alone, by grey and by black, and what only a half grey cell will do for."""
        kept = [("make", 1), ("read", 1, 1)]
        heeds = [(), (("write", 0, 2, "new"),), (("write", 0, 2, "again"),), (("write", 0, 2, "new"), ("write", 0, 2, "again"))]
        grey = [(), (("write", 0, 1, "new"),), (("write", 0, 1, "again"),)]
        for entry, made, at_black, at_grey in itertools.product(EARLY, ("grey", "black"), heeds, grey):
            for pieces in (False, True):
                book = book_of([entry, *kept, *at_black, *at_grey], (made, "black"), pieces)
                run = self.assert_losing(book, 1)
                closed = at_black and (at_grey or not pieces)
                self.assertEqual(run is None, bool(closed))

    def test_pool_and_known_ones(self):
        for book in pool() + KNOWN:
            for hands in HANDS:
                self.assert_losing(book, hands)

    def test_least_books_without_one_entry(self):
        for hands, last, pieces in itertools.product(HANDS, (False, True), (False, True)):
            for book in least_books(hands, last, pieces):
                self.assertIsNone(self.assert_losing(book, hands))
                told = told_by(book)
                for entry in told:
                    fewer = book_of([other for other in told if other != entry], ("grey", "grey"), pieces)
                    self.assertIsNotNone(self.assert_losing(fewer, hands))

    def test_full_books_without_what_they_need(self):
        for pieces in (False, True):
            told = told_by(full("black", pieces))
            dropped = [("last",), ("write", 1, 2, "new"), ("write", 1, 2, "again")]
            for wanting in ([("make", 1)], [("read", 1, 0), ("read", 1, 1), ("write", 1, 0, "old")],
                            [("read", 1, 1), ("write", 1, 1, "old")]):
                for gone in (dropped[:1], dropped[1:]):
                    rest = [entry for entry in told if entry not in wanting + gone]
                    for hands in HANDS:
                        self.assertIsNotNone(self.assert_losing(book_of(rest, ("black", "grey"), pieces), hands))

    def test_calls_in_every_way(self):
        for book in [*KNOWN, bare(False, True), bare(True, False), full("grey", False), *near_books(random.Random(62), 20)]:
            for hands in HANDS:
                run = self.value_of(losing, book=book, hands=hands)
                self.assertEqual(run is None, ways_of(book, hands) != ())

    def test_a_further_hand_that_holds_nothing(self):
        """[F4]: a losing run for two hands becomes one for three."""
        for book in near_books(random.Random(63), 80):
            run = losing(book, 2)
            if run is not None:
                for place in (0, len(run[3])):
                    deeds = run[3][:place] + (("look", 2),) + run[3][place:]
                    self.assertIsNone(losing_error(book, 3, (run[0], run[1] + ((None,),), run[2], deeds)))

    def test_quickly(self):
        with Quickly(10):
            for book in near_books(random.Random(64), 200):
                for hands in HANDS:
                    losing(book, hands)


class LosingErrorTest(GuardCase):

    def assert_error(self, expected, value, book=PLAIN, hands=1):
        self.assertEqual(judged(book, hands, value), expected)
        self.assert_told(expected, losing_error, book=book, hands=hands, value=value)

    def test_form(self):
        for value in ODD_VALUES:
            if not (type(value) is tuple and len(value) == 4 and type(value[3]) is tuple):
                self.assert_error("form", value)
        for value in (None, MADE[:3], MADE + ((),), list(MADE), (MADE,), MADE[:3] + (list(MADE[3]),), ()):
            self.assert_error("form", value)
        for item in ODD_VALUES:
            if type(item) is not tuple:
                self.assert_error("form", MADE[:3] + (item,))
                self.assert_error("form", (item, item, item, item))

    def test_start(self):
        for value in ODD_VALUES:
            for changed in ((value,) + MADE[1:], MADE[:1] + (value,) + MADE[2:]):
                self.assert_error(judged(PLAIN, 1, changed), changed)
            if type(value) is not tuple:
                self.assert_error("start", (value,) + MADE[1:])
                self.assert_error("start", MADE[:1] + (value,) + MADE[2:])
            if type(value) is not int or not 0 <= value <= 40:
                self.assert_error("start", MADE[:2] + (value,) + MADE[3:])
        for value in ((((5,),),) + MADE[1:], (((),) * 40,) + MADE[1:], ((), ((0,),), 1, MADE[3]), ((), (), 1, MADE[3]),
                      ((), ((None,),), 41, ()), ((), ((None,),), True, ()), ((), ((None,),) * 5, 1, ()),
                      ((), ((None,), ()), 1, ()), (((0,),), ((1,),), 0, ())):
            self.assert_error("start", value)

    def test_hands(self):
        for many in HANDS:
            for hands in HANDS:
                value = ((), ((None,),) * many, 1, tuple(("look", hand) for hand in range(many)) + (("make", 0, 0, 0),))
                self.assert_error(None if many == hands else "hands", value, hands=hands)

    def test_how_many_deeds(self):
        """A run may have 400 deeds, and no more; what stands in it is looked at behind that."""
        idle = (("copy", 0, 0, 0),)
        for many in (0, 1, 398):
            self.assert_error(None, MADE[:3] + (idle * many + MADE[3],))
            self.assert_error(None, MADE[:3] + (MADE[3] + idle * many,))
        for many in (399, 400, 3000):
            self.assert_error("many", MADE[:3] + (idle * many + MADE[3],))
        self.assert_error("many", MADE[:3] + ((None,) * 401,))
        self.assert_error(("deed", 0), MADE[:3] + ((None,) * 400,))
        self.assert_error("hands", MADE[:3] + ((None,) * 401,), hands=2)

    def test_deeds(self):
        look, make = MADE[3]
        for deeds, place in (
                ((("scan", 0),), 0), ((look, look), 1), ((look, make, make), 2), ((look, make, ("scan", 0)), 2),
                ((look, ("read", 0, 0, 0, 0), None), 1), ((make, ("look", 1)), 1), ((look, list(make)), 1),
                ((look, ("make", 0, 0, True)), 1), ((look, make, ("drop", 0, 1), None), 2)):
            self.assert_error(("deed", place), MADE[:3] + (deeds,))
        for value in ODD_VALUES:
            self.assert_error(("deed", 0), MADE[:3] + ((value,) + MADE[3],))
            self.assert_error(("deed", 2), MADE[:3] + (MADE[3] + (value, None),))

    def test_over(self):
        look, make = MADE[3]
        for deeds in ((), (make,), (make, ("drop", 0, 0))):
            self.assert_error("over", MADE[:3] + (deeds,))
        self.assert_error("over", (((None,),), ((0,),), 1, (look, make)))
        self.assert_error(None, (((None,),), ((0,),), 1, (look, make, ("scan", 0))))
        two = ((), ((None,), (None,)), 1, (look, make))
        self.assert_error("over", two, hands=2)
        self.assert_error(None, two[:3] + ((look, make, ("look", 1)),), hands=2)

    def test_kept(self):
        look, make = MADE[3]
        self.assert_error("kept", MADE[:3] + ((look,),))
        self.assert_error("kept", MADE[:3] + ((make, look),))
        self.assert_error("kept", MADE[:3] + ((look, make, ("drop", 0, 0)),))
        self.assert_error("kept", MADE, bare(True, False))
        self.assert_error("kept", MADE, yuasa(True))
        self.assert_error(None, MADE, bare(False, True))
        self.assert_error("kept", ((), ((None,),), 0, (look,)))

    def test_which_fault_comes_first(self):
        """Each fault together with each later one."""
        bad = (None,)
        for expected, value, hands in (
                ("form", [((5,),), (), -1, bad], 3), ("form", (((5,),), (), -1, list(bad)), 3),
                ("start", (((5,),), ((None,),), 1, bad * 500), 3), ("hands", ((), ((None,),), 1, bad * 500), 3),
                ("many", ((), ((None,),), 1, bad * 500), 1), (("deed", 1), ((), ((None,),), 1, (("make", 0, 0, 0), None)), 1),
                ("over", ((), ((None,),), 1, ()), 1)):
            self.assert_error(expected, value, hands=hands)

    def test_told_runs_of_other_books(self):
        """What loses a cell by one book is judged by many."""
        books = [*KNOWN, *near_books(random.Random(65), 40), bare(True, True), full("black", False)]
        found = {}
        for book, hands in itertools.product(books[::2], (1, 2, 3)):
            run = losing(book, hands)
            if run is not None:
                for other in books[::5]:
                    expected = judged(other, hands, run)
                    found[expected] = True
                    self.assertEqual(losing_error(other, hands, run), expected)
        self.assertIn(None, found)
        self.assertIn("kept", found)
        self.assertIn("over", found)

    def test_changed_runs(self):
        """Runs with a deed left out, twice, or changed."""
        for book, hands in itertools.product([*KNOWN[::3], *near_books(random.Random(66), 25), PLAIN], (1, 2)):
            run = losing(book, hands)
            if run is not None:
                for place, deed in enumerate(run[3]):
                    for deeds in (run[3][:place] + run[3][place + 1:], run[3][:place + 1] + run[3][place:],
                                  run[3][:place] + (deed[:-1] + (1,),) + run[3][place + 1:], run[3][:place]):
                        value = run[:3] + (deeds,)
                        self.assertEqual(losing_error(book, hands, value), judged(book, hands, value))


if __name__ == "__main__":
    unittest.main()
