"""[K1] to [K3], and [K5]: heaps that work."""

import inspect
import itertools
import random
import unittest

from guardbooks.books import book_error, plain_book
from guardbooks.counting import out_of_use
from guardbooks.ending import finished, last_look
from guardbooks.errors import (
    BadBook, BadHeap, BadStanding, GuardError, Lost, NothingToUndo, Refused, TooManyEdits, Unfit)
from guardbooks.heaps import heap_error
from guardbooks.knownbooks import baker, dijkstra, hybrid, steele, yuasa
from guardbooks.losing import losing
from guardbooks.reaching import reached
from guardbooks.safety import is_safe
from guardbooks.standings import standing_error
from guardbooks.yards import Yard
from tests.bookpool import bare, full, random_books
from tests.deedmodel import drawn_deed
from tests.safetymodel import near_books
from tests.standingpool import WIDE, ring
from tests.support import GuardCase, ODD_VALUES, PAIR, Quickly
from tests.yardmodel import ModelYard, begun, done, told_of

KNOWN = [maker(pieces) for maker in (dijkstra, steele, yuasa, baker, hybrid) for pieces in (False, True)]
WHOLE = bare(False, False)
BEGUN = (
    ((), ((None, None),), 3), (PAIR, ((0, None), (1,)), 2), (((1, 2), (2, None), ()), ((0, None, None),), 1),
    (ring(5), ((0, 2), (None, None), (4,)), 4), ((), ((None, None),) * 4, 6), ((), ((None,),), 0))
WORDS = ("make", "read", "write", "read", "write", "drop", "copy", "look", "scan", "mark", "mark", "sweep", "cycle")


def drawn_edit(chance, standing):
    """A random edit, mostly one that can be done."""
    word = chance.choice(WORDS)
    if word == "mark":
        return ("mark", chance.choice((1, 1, 2, 3, 400, 0, 401)))
    if word in ("sweep", "cycle"):
        return (word,)
    return drawn_deed(chance, standing, word)


def drawn_yards(seed, many, edits=40):
    """Yards on which random edits were done, and models of them, with those with which they began."""
    chance = random.Random(seed)
    books = KNOWN + random_books(20) + near_books(chance, 20) + [full("grey", True)]
    for _ in range(many):
        book, began = chance.choice(books), chance.choice(BEGUN)
        yard, model = Yard(book, *began), ModelYard(book, *began)
        for _ in range(edits):
            edit = drawn_edit(chance, model.standing)
            if type(model.edit(edit)) is int:
                done(yard, edit)
        yield yard, model, began


class BeginTest(GuardCase):

    def assert_begun(self, book, heap, rooms, many):
        yard = self.value_of_yard(book=book, heap=heap, rooms=rooms, many=many)
        self.assertEqual(repr(told_of(yard)), repr(ModelYard(book, heap, rooms, many).told()))

    def value_of_yard(self, **named):
        yards = [Yard(*named.values()), Yard(**named), Yard(**dict(reversed(list(named.items()))))]
        for yard in yards[1:]:
            self.assertEqual(repr(told_of(yard)), repr(told_of(yards[0])))
        return yards[0]

    def test_new_ones(self):
        for book in KNOWN[::3] + [WHOLE, full("grey", True)]:
            for began in BEGUN:
                self.assert_begun(book, *began)
        self.assert_begun(WHOLE, WIDE[0], WIDE[2], 0)
        self.assert_begun(WHOLE, (), ((None,) * 4,) * 4, 40)

    def test_errors(self):
        for error, fields, book, heap, rooms, many in (
                (BadBook, {"error": "form"}, None, (), ((None,),), 1),
                (BadBook, {"error": "last"}, WHOLE[:3] + (0, False), ((7,),), (), -1),
                (BadHeap, {"error": ("field", 0, 0)}, WHOLE, ((7,),), (), -1), (BadHeap, {"error": "form"}, WHOLE, [], (), 0),
                (Unfit, {}, WHOLE, (), (), 41), (Unfit, {}, WHOLE, ((),) * 40, (), 1), (Unfit, {}, WHOLE, (), ((None,),), True),
                (Unfit, {}, WHOLE, (), ((None,),), -1), (BadStanding, {"error": "hands"}, WHOLE, (), (), 3),
                (BadStanding, {"error": ("hand", 0)}, WHOLE, (), ((),), 3),
                (BadStanding, {"error": ("room", 0, 0)}, WHOLE, (), ((0,),), 0),
                (BadStanding, {"error": ("free", 0)}, WHOLE, (), ((0,),), 1)):
            self.assert_raised(error, fields, Yard, book=book, heap=heap, rooms=rooms, many=many)

    def test_odd_values(self):
        for value in ODD_VALUES:
            error = book_error(value)
            if error is not None:
                self.assert_raised(BadBook, {"error": error}, Yard, book=value, heap=value, rooms=value, many=value)
            expected = "value" if heap_error(value) is None else BadHeap
            self.assertEqual(self.kind_of(WHOLE, value, ((None,),), 0), expected)
            expected = "value" if standing_error(begun((), value, 0) if type(value) is tuple else value) is None else BadStanding
            self.assertEqual(self.kind_of(WHOLE, (), value, 0), expected)
            expected = "value" if type(value) is int and 0 <= value <= 40 else Unfit
            self.assertEqual(self.kind_of(WHOLE, (), ((None,),), value), expected)

    def kind_of(self, *values):
        try:
            Yard(*values)
            return "value"
        except GuardError as error:
            return type(error)


class EditsTest(GuardCase):

    def test_drawn_edits(self):
        """Each edit comes to what the model comes to, and so do some undone ones."""
        chance = random.Random(141)
        found = {}
        for yard, model, _ in drawn_yards(142, 120, 0):
            for _ in range(60):
                if chance.random() < 0.1:
                    edit, expected = ("undo",), model.undo()
                else:
                    edit = drawn_edit(chance, model.standing)
                    expected = model.edit(edit)
                ahead = repr(told_of(yard))
                self.assertEqual(repr(done(yard, edit)), repr(expected), (yard.log, edit))
                self.assertEqual(repr(told_of(yard)), repr(model.told()))
                if type(expected) is tuple:
                    self.assertEqual(repr(told_of(yard)), ahead)
                found[edit[0], expected[0] if type(expected) is tuple else "done"] = True
        for word in ("make", "read", "write", "look", "scan"):
            self.assertIn((word, "Refused"), found)
            self.assertIn((word, "done"), found)
        for pair in (("mark", "Unfit"), ("mark", "done"), ("sweep", "Unfit"), ("sweep", "Lost"), ("sweep", "done"),
                     ("cycle", "Lost"), ("cycle", "done"), ("undo", "done"), ("drop", "done"), ("copy", "done")):
            self.assertIn(pair, found)

    def test_each_method_and_how_it_is_called(self):
        """By place and by the told names; what stands in the log is the word and the arguments."""
        names = {
            "make": "h i n", "read": "h i f j", "write": "h i f j", "drop": "h i", "copy": "h i j", "look": "h", "scan": "c",
            "mark": "many", "sweep": "", "cycle": "", "undo": "", "twin": ""}
        for word, told in names.items():
            self.assertEqual(list(inspect.signature(getattr(Yard, word)).parameters)[1:], told.split())
            self.assertIn(word, vars(Yard))
        edits = (
            ("make", 0, 1, 2), ("write", 0, 0, 1, 1), ("read", 0, 0, 1, 1), ("copy", 0, 0, 1), ("drop", 0, 1), ("look", 0),
            ("scan", 0), ("mark", 5), ("write", 0, 0, 0, None), ("sweep",), ("cycle",))
        by_place, by_name = [Yard(dijkstra(False), PAIR, ((0, None),), 2) for _ in range(2)]
        for version, edit in enumerate(edits, 1):
            word = names[edit[0]].split()
            self.assertEqual(getattr(by_place, edit[0])(*edit[1:]), version, edit)
            self.assertEqual(getattr(by_name, edit[0])(**dict(reversed(list(zip(word, edit[1:]))))), version)
            self.assertEqual(repr(told_of(by_place)), repr(told_of(by_name)))
        self.assertEqual(repr(by_place.log), repr(edits))

    def test_refused(self):
        yard = Yard(WHOLE, PAIR, ((0, None),), 0)
        for edit in (
                ("make", 0, 0, 0), ("make", 0, 0, 4), ("make", 1, 0, 0), ("read", 0, 1, 0, 0), ("read", 0, 0, 2, 0),
                ("read", 0, 0, 0, None), ("write", 0, 0, 0, 2), ("write", 0, 0, 0, True), ("drop", 0, 2), ("drop", "0", 0),
                ("copy", 0, 0, -1), ("look", 1), ("look", None), ("scan", 0), ("scan", 40), ("scan", (0,))):
            with self.assertRaises(Refused) as caught:
                getattr(yard, edit[0])(*edit[1:])
            self.assertEqual(repr(caught.exception.deed), repr(edit))
        self.assertEqual(yard.log, ())

    def test_odd_values(self):
        yard = Yard(WHOLE, PAIR, ((0, None),), 1)
        yard.look(0)
        ahead = repr(told_of(yard))
        for value in ODD_VALUES:
            for word, many in (("make", 3), ("read", 4), ("write", 4), ("drop", 2), ("copy", 3), ("look", 1), ("scan", 1)):
                if type(value) is not int or not 0 <= value <= 1:
                    with self.assertRaises(Refused) as caught:
                        getattr(yard, word)(*[value] * many)
                    self.assertEqual(caught.exception.deed[0], word)
                    self.assertIs(caught.exception.deed[1], value)
            if type(value) is not int or not 1 <= value <= 400:
                self.assertRaises(Unfit, yard.mark, value)
            self.assertEqual(repr(told_of(yard)), ahead)

    def test_mark(self):
        """Looks come first, by the order of hands, then scans of the least grey cell; fewer where a sweep is due."""
        yard = Yard(bare(False, True), ((1, 2), (None,), ()), ((0,), (1,)), 0)
        deeds = [("look", 0), ("look", 1), ("scan", 0), ("scan", 0), ("scan", 1)]
        for deed in deeds:
            self.assertEqual(yard.due, deed)
            yard.mark(1)
        self.assertEqual((yard.due, yard.version), (("sweep",), 5))
        end = yard.standing
        self.assertRaises(Unfit, yard.mark, 1)
        for many in (0, 401, -1, True, None, "1", (1,), 10 ** 300):
            self.assertRaises(Unfit, yard.mark, many)
        for parts in ((5,), (400,), (2, 3), (4, 400), (1, 1, 3), (3, 2), (6,)):
            other = Yard(bare(False, True), ((1, 2), (None,), ()), ((0,), (1,)), 0)
            for version, many in enumerate(parts, 1):
                self.assertEqual(other.mark(many), version)
            self.assertEqual(other.standing, end)
            self.assertEqual(other.log, tuple(("mark", many) for many in parts))
            for many in (0, 401):
                self.assertRaises(Unfit, other.mark, many)

    def test_sweep_and_cycle(self):
        yard = Yard(WHOLE, ((1,), (), (0,), ()), ((0,), (3, None)), 1)
        self.assertRaises(Unfit, yard.sweep)
        self.assertEqual((yard.cycle(), yard.freed, yard.cycles), (1, (2,), 1))
        self.assertEqual(yard.standing, (((1,), (), (), (), ()), ("white", "white", "free", "white", "free"), ((0,), (3, None)), (False, False)))
        self.assertEqual((yard.drop(0, 0), yard.mark(1), yard.mark(400), yard.due), (2, 3, 4, ("sweep",)))
        self.assertEqual((yard.sweep(), yard.freed, yard.cycles, yard.drop(1, 0), yard.freed), (5, (0, 1), 2, 6, (0, 1)))
        self.assertEqual((yard.cycle(), yard.freed, yard.cycle(), yard.freed, yard.cycles), (7, (3,), 8, (), 4))
        self.assertEqual(yard.standing[1], ("free",) * 5)

    def test_sweeps_that_would_lose_something(self):
        yard = Yard(WHOLE, ((1,), ()), ((0, None),), 0)
        for edit in (("look", 0), ("read", 0, 0, 0, 1), ("write", 0, 0, 0, None)):
            done(yard, edit)
        ahead = repr(told_of(yard))
        with self.assertRaises(Lost) as caught:
            yard.cycle()
        self.assertEqual(caught.exception.cells, (1,))
        self.assertEqual(repr(told_of(yard)), ahead)
        yard.scan(0)
        for method in (yard.sweep, yard.cycle):
            with self.assertRaises(Lost) as caught:
                method()
            self.assertEqual(caught.exception.cells, (1,))
        self.assertEqual((yard.version, yard.cycles, yard.freed), (4, 0, ()))
        self.assertEqual((yard.drop(0, 1), yard.sweep(), yard.freed), (5, 6, (1,)))

    def test_two_hundred_edits_and_one_more(self):
        """What is wrong with the edit itself comes first."""
        yard = Yard(WHOLE, ((1,), ()), ((0, None),), 0)
        for edit in (("look", 0), ("read", 0, 0, 0, 1), ("write", 0, 0, 0, None)):
            done(yard, edit)
        for version in range(4, 201):
            self.assertEqual(yard.copy(0, 0, 0), version)
        ahead = repr(told_of(yard))
        for edit in (("copy", 0, 0, 0), ("drop", 0, 0), ("scan", 0), ("mark", 1), ("write", 0, 0, 0, None)):
            self.assertEqual(done(yard, edit), ("TooManyEdits",))
        self.assertEqual(done(yard, ("look", 0)), ("Refused", ("look", 0)))
        self.assertEqual(done(yard, ("mark", 0)), ("Unfit",))
        self.assertEqual(done(yard, ("sweep",)), ("Unfit",))
        self.assertEqual(done(yard, ("cycle",)), ("Lost", (1,)))
        self.assertEqual(repr(told_of(yard)), ahead)
        self.assertEqual((yard.undo(), yard.scan(0), yard.version), (199, 200, 200))
        self.assertEqual(done(yard, ("sweep",)), ("Lost", (1,)))
        self.assertEqual((yard.undo(), yard.drop(0, 1)), (199, 200))
        self.assertRaises(TooManyEdits, yard.cycle)
        self.assertEqual(len(yard.log), 200)

    def test_cycles_at_the_end(self):
        yard = Yard(hybrid(True), (), ((None, None),), 2)
        for version in range(1, 201):
            self.assertEqual(yard.cycle(), version)
        self.assertRaises(TooManyEdits, yard.cycle)
        self.assertEqual(yard.cycles, 200)

    def test_quickly(self):
        with Quickly(8):
            for _ in range(3):
                yard = Yard(hybrid(True), WIDE[0], WIDE[2], 0)
                for _ in range(200):
                    yard.cycle()
                    yard.due


class UndoTest(GuardCase):

    def test_down_to_nothing_and_edits_behind_it(self):
        for yard, model, began in drawn_yards(143, 25):
            standings = [told_of(yard)]
            while yard.version:
                self.assertEqual(yard.undo(), model.undo())
                self.assertEqual(repr(told_of(yard)), repr(model.told()))
                standings.append(told_of(yard))
            self.assertRaises(NothingToUndo, yard.undo)
            self.assertEqual(repr(told_of(yard)), repr(told_of(Yard(yard.book, *began))))
            for told in standings[-2::-1]:
                done(yard, told[2][-1])
                self.assertEqual(repr(told_of(yard)), repr(told))

    def test_sweeps_are_undone_too(self):
        yard = Yard(WHOLE, ((), (), ()), ((0, 1),), 0)
        yard.cycle()
        yard.drop(0, 0)
        yard.cycle()
        self.assertEqual((yard.freed, yard.cycles), ((0,), 2))
        self.assertEqual((yard.undo(), yard.freed, yard.cycles), (2, (2,), 1))
        self.assertEqual((yard.undo(), yard.undo(), yard.freed, yard.cycles), (1, 0, (), 0))
        self.assertEqual(yard.standing[1], ("white",) * 3)


class TwinsTest(GuardCase):

    def test_neither_changes_with_the_other(self):
        for yard, model, began in drawn_yards(144, 25):
            twin = yard.twin()
            self.assertIsInstance(twin, Yard)
            self.assertIsNot(twin, yard)
            self.assertTrue(twin == yard and not twin != yard)
            self.assertEqual(repr(told_of(twin)), repr(told_of(yard)))
            while twin.version:
                twin.undo()
            self.assertEqual(repr(told_of(yard)), repr(model.told()))
            self.assertEqual(repr(told_of(twin)), repr(told_of(Yard(yard.book, *began))))
            other = yard.twin()
            if yard.version:
                yard.undo()
                self.assertEqual(repr(told_of(other)), repr(model.told()))
                self.assertTrue(other != yard and not other == yard)

    def test_equal_ones(self):
        """Books, logs and standings tell; how they began, and what was freed, play no part."""
        one, other = Yard(WHOLE, PAIR, ((0,),), 1), Yard(WHOLE, PAIR, ((0,),), 1)
        self.assertTrue(one == other and not one != other)
        one.drop(0, 0)
        self.assertTrue(one != other and not one == other)
        other.drop(0, 0)
        self.assertEqual(one, other)
        self.assertNotEqual(Yard(WHOLE, PAIR, ((0,),), 1), Yard(bare(True, False), PAIR, ((0,),), 1))
        self.assertNotEqual(Yard(WHOLE, PAIR, ((0,),), 1), Yard(WHOLE, PAIR, ((0,),), 2))
        # One has the same standing by another log, the other the same log and standing from another heap.
        longer = Yard(WHOLE, PAIR, ((0,),), 1)
        longer.copy(0, 0, 0)
        self.assertNotEqual(longer, Yard(WHOLE, PAIR, ((0,),), 1))
        few, many = Yard(WHOLE, (), ((None,),), 2), Yard(WHOLE, ((),), ((None,),), 1)
        self.assertNotEqual(few, many)
        few.cycle()
        many.cycle()
        self.assertEqual((few.freed, many.freed), ((), (0,)))
        self.assertTrue(few == many and not few != many)

    def test_nothing_else_is_equal(self):
        yard = Yard(WHOLE, (), ((None,),), 1)

        class Other:
            book, log, standing = yard.book, yard.log, yard.standing

            def __eq__(self, other):
                return NotImplemented

        for value in [*ODD_VALUES, told_of(yard), yard.standing, Other(), Yard, object()]:
            self.assertIs(yard == value, False)
            self.assertIs(yard != value, True)
            self.assertIs(value == yard, False)

    def test_attributes_can_only_be_read(self):
        yard = Yard(WHOLE, (), ((None,),), 1)
        for name in ("book", "standing", "log", "version", "cycles", "freed", "due"):
            value = getattr(yard, name)
            with self.assertRaises(AttributeError):
                setattr(yard, name, value)
            self.assertIs(getattr(yard, name), value) if name != "due" else self.assertEqual(yard.due, value)

    def test_a_yard_is_a_value_like_any_other(self):
        yard = Yard(WHOLE, PAIR, ((0,),), 1)
        self.assertRaises(BadBook, Yard, yard, (), ((None,),), 1)
        self.assertRaises(BadHeap, Yard, WHOLE, (yard,), ((None,),), 1)
        self.assertRaises(Refused, yard.drop, yard, yard)
        self.assertRaises(Unfit, yard.mark, yard)


class WhatHoldsTest(GuardCase):
    """[K5]"""

    def test_nothing_is_lost_by_safe_books(self):
        swept = 0
        chance = random.Random(145)
        books = KNOWN + near_books(chance, 120)
        for book in books:
            for began in chance.sample(BEGUN, 2):
                if is_safe(book, len(began[1])):
                    yard = Yard(book, *began)
                    for _ in range(50):
                        edit = drawn_edit(chance, yard.standing)
                        ahead = yard.standing
                        raised = done(yard, edit)
                        if type(raised) is tuple:
                            self.assertNotEqual(raised[0], "Lost")
                        elif edit[0] in ("sweep", "cycle"):
                            swept += 1
                            end = finished(book, ahead)[1]
                            self.assertEqual(reached(yard.standing), reached(end))
                            for cell in reached(end):
                                self.assertEqual(yard.standing[0][cell], end[0][cell])
                                self.assertNotIn(cell, yard.freed)
        self.assertGreater(swept, 200)

    def test_what_is_out_of_use_is_freed_by_the_next_sweep_but_one(self):
        chance = random.Random(146)
        asked = 0
        for yard, _, _ in drawn_yards(147, 60):
            begins, ahead = out_of_use_at_last_begin(yard), None
            for _ in range(40):
                edit = drawn_edit(chance, yard.standing)
                spare = out_of_use(yard.standing)
                if type(done(yard, edit)) is int and edit[0] in ("sweep", "cycle"):
                    self.assertLessEqual(set(begins), set(yard.freed))
                    if ahead is not None:
                        asked += len(ahead)
                        self.assertLessEqual(set(ahead) - set(freed_ahead), set(yard.freed))
                    ahead, freed_ahead = spare, yard.freed
                    begins = out_of_use(yard.standing)
        self.assertGreater(asked, 50)

    def test_behind_a_sweep(self):
        swept = 0
        for yard, _, _ in drawn_yards(148, 60):
            while yard.version:
                edit, behind, gone = yard.log[-1], yard.standing, yard.freed
                yard.undo()
                self.assertIsNone(standing_error(behind))
                ahead = yard.standing
                if edit[0] in ("sweep", "cycle"):
                    swept += 1
                    end = last_look(yard.book, finished(yard.book, ahead)[1])
                    kept = [cell for cell, mark in enumerate(end[1]) if mark not in ("free", "white")]
                    self.assertEqual([cell for cell, mark in enumerate(behind[1]) if mark != "free"], kept)
                    self.assertEqual({behind[1][cell] for cell in kept} - {"white"}, set())
                    self.assertNotIn(True, behind[3])
                    self.assertEqual(gone, tuple(cell for cell, mark in enumerate(end[1]) if mark == "white"))
                else:
                    for was, now in zip(ahead[1], behind[1]):
                        if "free" in (was, now):
                            self.assertTrue(was == now or edit[0] == "make" and was == "free")
        self.assertGreater(swept, 50)

    def test_books_that_are_not_safe_lose_something(self):
        for book in near_books(random.Random(149), 120) + [plain_book(True, True), yuasa(False)]:
            for hands in (1, 2, 4):
                if not is_safe(book, hands):
                    heap, rooms, many, deeds = losing(book, hands)
                    yard = Yard(book, heap, rooms, many)
                    self.assertLessEqual(len(yard.standing[0]), 4)
                    self.assertLessEqual(len(deeds), 20)
                    for deed in deeds:
                        self.assertIs(type(done(yard, deed)), int)
                    self.assertEqual(yard.due, ("sweep",))
                    self.assertRaises(Lost, yard.sweep)

    def test_marks_add_up(self):
        for yard, _, _ in drawn_yards(150, 40):
            for one, other in itertools.product((1, 2, 5), (1, 3)):
                parted, whole = yard.twin(), yard.twin()
                if type(done(parted, ("mark", one))) is int and type(done(parted, ("mark", other))) is int:
                    whole.mark(one + other)
                    self.assertEqual(parted.standing, whole.standing)


def out_of_use_at_last_begin(yard):
    """What was out of use when the marking began that goes on."""
    twin = yard.twin()
    while twin.version and twin.log[-1][0] not in ("sweep", "cycle"):
        twin.undo()
    return out_of_use(twin.standing)


if __name__ == "__main__":
    unittest.main()
