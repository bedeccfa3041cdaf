"""[C1], [C3], [C4], and of [C6] what is said of deeds."""

import itertools
import random
import unittest

from guardbooks.books import plain_book
from guardbooks.deeds import deed_error
from guardbooks.errors import Refused, TooMany
from guardbooks.knownbooks import baker, dijkstra, hybrid, steele, yuasa
from guardbooks.moving import after, guards_asked, led
from guardbooks.reaching import reached
from guardbooks.standings import standing_error, start
from tests.bookpool import ENTRIES, GUARDS, bare, book_of, full, pool, random_books, told_by
from tests.deedmodel import Marked, done_deeds, fault, random_run, told_deeds
from tests.standingpool import FULL_HANDS, NAMED, ROW, random_standings, white
from tests.support import GuardCase, ODD_VALUES, PAIR, Quickly

WHOLE, PIECES = bare(False, False), bare(False, True)
KNOWN = [maker(pieces) for maker in (dijkstra, steele, yuasa, baker, hybrid) for pieces in (False, True)]

# The cells 0 to 3 are white, grey, grey and gone through in part, black; 4 and 5 white, with fields and without.
COLOURS = (
    ((4, 5), (4, 5), (5, 4), (5, None), (None,), (), ()), ("white", 0, 1, "black", "white", "white", "free"),
    ((0, 1, 2, 3), (4, 5, None)), (True, False))


def guarded(phase, colour, guard, pieces=False):
    """The book with this one guard."""
    return book_of([("write", phase, colour, word) for word in guard], pieces=pieces)


def turned(standing):
    """The standing with the other phases."""
    return standing[:3] + (tuple(not item for item in standing[3]),)


class MovingCase(GuardCase):

    def assert_step(self, book, standing, deed):
        """Both calls come to what the model comes to."""
        marked = Marked(standing)
        asked = marked.do(book, deed)
        self.assertEqual(after(book, standing, deed), marked.standing(), (book, standing, deed))
        self.assertEqual(guards_asked(book, standing, deed), asked, (book, standing, deed))

    def assert_marks(self, marks, book, standing, deed):
        """Heap, hands and looked are those of the model; the marks are told."""
        marked = Marked(standing)
        marked.do(bare(False, book[4]), deed)
        heap, _, hands, looked = marked.standing()
        self.assert_told((heap, marks, hands, looked), after, book=book, standing=standing, deed=deed)


class AfterTest(MovingCase):

    def test_look(self):
        heap = ((1,), (None,), (), (0,), (None, None))
        standing = (heap, ("white", "white", "white", "black", 1), ((None, 0, 2, 0), (3, 4, 1)), (False, False))
        for book in (WHOLE, PIECES, full("black", False)):
            self.assert_told(
                (heap, (0, "white", "black", "black", 1), standing[2], (True, False)),
                after, book=book, standing=standing, deed=("look", 0))
            self.assert_told(
                (heap, ("white", 0, "white", "black", 1), standing[2], (False, True)),
                after, book=book, standing=standing, deed=("look", 1))

    def test_scan(self):
        heap = ((1, 2, 3), (None,), (), (0,))
        for mark, pieces, marks in (
                (0, False, ("black", 0, "black", 0)), (1, False, ("black", 0, "black", 0)),
                (2, False, ("black", 0, "black", 0)), (0, True, (1, 0, "white", "white")),
                (1, True, (2, "white", "black", "white")), (2, True, ("black", "white", "white", 0))):
            standing = (heap, (mark, "white", "white", "white"), ((None,),), (False,))
            self.assert_told(
                (heap, marks, ((None,),), (False,)),
                after, book=bare(True, pieces), standing=standing, deed=("scan", 0))

    def test_scan_of_fields_that_name_nothing_itself_or_one_cell_twice(self):
        for pieces, marks in ((False, ("black", 0)), (True, (1, "white"))):
            standing = (((0, 1, 1), (0,)), (0, "white"), ((None,),), (True,))
            self.assert_told(
                (standing[0], marks, ((None,),), (True,)),
                after, book=bare(False, pieces), standing=standing, deed=("scan", 0))
            self.assert_told(
                (((None,),), ("black",), ((0,),), (True,)), after, book=bare(False, pieces),
                standing=(((None,),), (0,), ((0,),), (True,)), deed=("scan", 0))

    def test_scans_leave_what_is_not_white(self):
        standing = (((1, 2), (0,), (None, None)), (0, "black", 1), ((None,),), (True,))
        self.assert_told(
            (standing[0], ("black", "black", 1), ((None,),), (True,)),
            after, book=WHOLE, standing=standing, deed=("scan", 0))

    def test_drop_and_copy(self):
        standing = white(PAIR, ((0, None, 2), (1,)))
        for book in (WHOLE, full("grey", True)):
            for deed, hand in (
                    (("drop", 0, 0), (None, None, 2)), (("drop", 0, 1), (0, None, 2)), (("copy", 0, 0, 1), (0, 0, 2)),
                    (("copy", 0, 1, 2), (0, None, None)), (("copy", 0, 2, 2), (0, None, 2))):
                self.assert_told(
                    (PAIR, ("white",) * 3, (hand, (1,)), (False, False)),
                    after, book=book, standing=standing, deed=deed)

    def test_make(self):
        heap, marks = ((1,), (), (), (None,), ()), ("white", "black", "free", 0, "free")
        standing = (heap, marks, ((0,), (None, 3)), (False, True))
        for made, (hand, phase), many in itertools.product(
                ("white", "grey", "black"), ((0, 0), (1, 1)), (0, 1, 2, 3)):
            makes = tuple(made if phase == other else "white" for other in (0, 1))
            book = WHOLE[:2] + (makes,) + WHOLE[3:]
            mark = {"white": "white", "grey": 0 if many else "black", "black": "black"}[made]
            hands = ((2,), (None, 3)) if hand == 0 else ((0,), (2, 3))
            behind = (heap[:2] + ((None,) * many,) + heap[3:], marks[:2] + (mark,) + marks[3:], hands, standing[3])
            self.assert_told(behind, after, book=book, standing=standing, deed=("make", hand, 0, many))
            asked = () if made == "white" else (("make", phase),)
            self.assert_told(asked, guards_asked, book=book, standing=standing, deed=("make", hand, 0, many))

    def test_make_takes_the_least_free_cell(self):
        standing = start((), ((None,) * 4,), 3)
        deeds = tuple(("make", 0, room, room) for room in (0, 1, 2))
        self.assert_told(
            (((), (None,), (None, None)), ("white",) * 3, ((0, 1, 2, None),), (False,)),
            led, book=WHOLE, standing=standing, deeds=deeds)
        self.assert_raised(
            Refused, {"deed": ("make", 0, 3, 0)},
            led, book=WHOLE, standing=standing, deeds=deeds + (("make", 0, 3, 0),))

    def test_read(self):
        for book in (WHOLE, PIECES, full("grey", False)[:1] + WHOLE[1:]):
            for deed, hands in (
                    (("read", 0, 0, 0, 3), ((0, 1, 2, 4), (4, 5, None))), (("read", 0, 2, 1, 2), ((0, 1, 4, 3), COLOURS[2][1])),
                    (("read", 1, 0, 0, 1), (COLOURS[2][0], (4, None, None)))):
                self.assert_told(
                    COLOURS[:2] + (hands,) + COLOURS[3:], after, book=book, standing=COLOURS, deed=deed)
                self.assert_told((), guards_asked, book=book, standing=COLOURS, deed=deed)

    def test_read_with_shading(self):
        """Of each phase and colour, each entry alone: it shades what is read there, and there alone."""
        for phase, colour, room in itertools.product((0, 1), (0, 1, 2), range(4)):
            book = book_of([("read", phase, colour)])
            for standing, here in ((COLOURS, 1), (turned(COLOURS), 0)):
                for field in (0, 1):
                    deed = ("read", 0, room, field, room)
                    self.assert_step(book, standing, deed)
                    named = standing[0][room][field]
                    does = phase == here and colour == (0, 1, 1, 2)[room] and named is not None
                    asked = (("read", phase, colour),) if does else ()
                    self.assert_told(asked, guards_asked, book=book, standing=standing, deed=deed)
                    marks = list(standing[1])
                    if does:
                        marks[named] = "black" if named == 5 else 0
                    self.assert_marks(tuple(marks), book, standing, deed)

    def test_old_new_and_again(self):
        """Written to is the cell 2, of which one field is gone through."""
        one, two = COLOURS, ("write", 0, 2, 0, 3)
        held = (COLOURS[0], COLOURS[1], ((0, 4, 2, 5), (None,)), (True, False))
        for guard, standing, deed, marks, words in (
                (("old",), one, two, {5: "black"}, ("old",)), (("new",), one, two, {}, ()),
                (("again",), one, two, {}, ()), (("new",), held, ("write", 0, 2, 0, 1), {4: 0}, ("new",)),
                (("old",), held, ("write", 0, 2, 0, 1), {5: "black"}, ("old",)),
                (("again",), held, ("write", 0, 2, 0, 1), {2: 0}, ("again",)),
                (("again", "new"), held, ("write", 0, 2, 0, 1), {4: 0}, ("new",)),
                (("again", "old"), held, ("write", 0, 2, 0, 1), {2: 0, 5: "black"}, ("again", "old")),
                (("again", "new", "old"), held, ("write", 0, 2, 0, 1), {4: 0, 5: "black"}, ("new", "old")),
                (("again", "new", "old"), held, ("write", 0, 2, 0, None), {5: "black"}, ("old",)),
                # It names the cell 5 already: "old" shades it first.
                (("again", "new", "old"), held, ("write", 0, 2, 0, 3), {5: "black"}, ("old",)),
                (("again", "new"), held, ("write", 0, 2, 0, 3), {5: "black"}, ("new",)),
                (("again",), held, ("write", 0, 2, 0, 3), {2: 0}, ("again",)),
                # What is written is not white: the cell itself.
                (("again", "new"), held, ("write", 0, 2, 0, 2), {}, ())):
            book = guarded(1, 1, guard)
            expected = tuple(marks.get(cell, mark) for cell, mark in enumerate(COLOURS[1]))
            self.assert_marks(expected, book, standing, deed)
            self.assert_told(
                tuple(("write", 1, 1, word) for word in words), guards_asked, book=book, standing=standing, deed=deed)

    def test_again_on_black_and_on_white_cells(self):
        standing = (((None, 2), (1,), ()), ("black", "white", "white"), ((0, 1, 2),), (True,))
        self.assert_marks((0, "white", "white"), guarded(1, 2, ("again",)), standing, ("write", 0, 0, 0, 1))
        self.assert_marks((0, "white", "white"), guarded(1, 2, ("again",), True), standing, ("write", 0, 0, 1, 2))
        self.assert_marks(("black", "white", "white"), guarded(1, 2, ("again",)), standing, ("write", 0, 0, 1, None))
        self.assert_marks(standing[1], guarded(1, 0, ("again",)), standing, ("write", 0, 1, 0, 2))
        # Only the field that is written counts: the other one names the white cell 2 still.
        self.assert_marks(standing[1], guarded(1, 2, ("again",)), standing, ("write", 0, 0, 0, 0))

    def test_again_on_a_grey_cell_that_is_gone_through_from_its_first_field_on(self):
        standing = (((None,), ()), (0, "white"), ((0, 1),), (False,))
        for pieces in (False, True):
            book = guarded(0, 1, ("again",), pieces)
            self.assert_marks((0, "white"), book, standing, ("write", 0, 0, 0, 1))
            self.assert_told((), guards_asked, book=book, standing=standing, deed=("write", 0, 0, 0, 1))

    def test_old_where_a_white_cell_names_itself(self):
        """It is shaded by "old", and not white any more when "again" is followed; it is at its first field then."""
        standing = (((0, None), ()), ("white", "white"), ((0, 1),), (True,))
        book = guarded(1, 0, ("again", "old"))
        self.assert_marks((0, "white"), book, standing, ("write", 0, 0, 0, 1))
        self.assert_told(
            (("write", 1, 0, "old"),), guards_asked, book=book, standing=standing, deed=("write", 0, 0, 0, 1))

    def test_colours_are_those_ahead_of_the_deed(self):
        """The guard at grey does not come into it where a white cell is shaded by the write itself."""
        standing = (((0,), ()), ("white", "white"), ((0, 1),), (False,))
        book = book_of([("write", 0, 0, "old"), ("write", 0, 1, "new")])
        self.assert_marks((0, "white"), book, standing, ("write", 0, 0, 0, 1))

    def test_every_guard_at_every_place(self):
        for guard, phase, colour, pieces in itertools.product(GUARDS, (0, 1), (0, 1, 2), (False, True)):
            book = guarded(phase, colour, guard, pieces)
            for standing in (COLOURS, turned(COLOURS)):
                for room, field, other in itertools.product(range(4), (0, 1), (0, 1, 3, None)):
                    self.assert_step(book, standing, ("write", 0, room, field, other))
                self.assert_step(book, standing, ("write", 1, 0, 0, 1))

    def test_every_write_into_small_standings(self):
        """A cell of every mark, that names and gets cells of every mark, with fields or without."""
        books = [book_of([("write", phase, colour, word) for phase in (0, 1) for colour in (0, 1, 2) for word in guard])
                 for guard in GUARDS]
        for mark, was, now, phase in itertools.product(
                ("white", 0, 1, "black"), (None, 0, 1, 2), (0, 1, 2, None), (False, True)):
            for others in itertools.product(("white", "black", 0), ("white", "black")):
                heap = ((was, 1), (2,), ())
                standing = (heap, (mark,) + others, ((0, 1, 2),), (phase,))
                for book in books:
                    self.assert_step(book, standing, ("write", 0, 0, 0, now))

    def test_forty_cells_and_four_hands_of_four_rooms(self):
        for standing in (FULL_HANDS, ROW, turned(FULL_HANDS)):
            grey = standing[:1] + (tuple(0 if fields else "black" for fields in standing[0]),) + standing[2:]
            for book in KNOWN[::3]:
                for deed in done_deeds(grey)[::5]:
                    self.assert_step(book, grey, deed)
                for deed in done_deeds(standing)[::5]:
                    self.assert_step(book, standing, deed)

    def test_many_books_in_many_standings(self):
        chance = random.Random(11)
        books = pool() + KNOWN
        for standing in [*NAMED, *random_standings(), COLOURS, turned(COLOURS)]:
            deeds = done_deeds(standing)
            for deed in chance.sample(deeds, min(len(deeds), 25)):
                for book in chance.sample(books, 4):
                    self.assert_step(book, standing, deed)

    def test_calls_in_every_way(self):
        chance = random.Random(12)
        for standing in (COLOURS, turned(COLOURS), start(PAIR, ((0, None),), 1)):
            for deed in chance.sample(done_deeds(standing), 20):
                for book in (WHOLE, full("grey", True), chance.choice(KNOWN)):
                    marked = Marked(standing)
                    asked = marked.do(book, deed)
                    self.assert_told(marked.standing(), after, book=book, standing=standing, deed=deed)
                    self.assert_told(asked, guards_asked, book=book, standing=standing, deed=deed)
                    self.assert_told(marked.standing(), led, book=book, standing=standing, deeds=(deed,))


class RefusedTest(GuardCase):

    def assert_refused(self, standing, deed, book=WHOLE):
        for function in (after, guards_asked):
            self.assert_raised(Refused, {"deed": deed}, function, book=book, standing=standing, deed=deed)
        self.assert_raised(Refused, {"deed": deed}, led, book=book, standing=standing, deeds=(deed,))

    def test_odd_values(self):
        for value in ODD_VALUES:
            self.assert_refused(COLOURS, value)

    def test_deeds_that_cannot_be_done(self):
        for deed in told_deeds(COLOURS, beyond=1):
            if fault(COLOURS, deed) is not None:
                self.assertRaises(Refused, after, WHOLE, COLOURS, deed)
                self.assertRaises(Refused, guards_asked, full("black", True), COLOURS, deed)
        for deed in (("look", 0), ("scan", 0), ("scan", 6), ("make", 1, 0, 4), ("read", 1, 2, 0, 0), ["look", 1],
                     ("write", 0, 0, 2, None), ("drop", 0, True), ("look", 1, 0)):
            self.assert_refused(COLOURS, deed, hybrid(True))

    def test_it_keeps_what_was_handed_in(self):
        deed = ["look", {"h": [0]}]
        for call in (lambda: after(WHOLE, COLOURS, deed), lambda: led(WHOLE, COLOURS, (deed,)),
                     lambda: guards_asked(WHOLE, COLOURS, deed)):
            with self.assertRaises(Refused) as caught:
                call()
            self.assertIs(caught.exception.deed, deed)


class LedTest(GuardCase):

    def test_no_deeds(self):
        for standing in (COLOURS, ROW):
            self.assert_told(standing, led, book=WHOLE, standing=standing, deeds=())

    def test_how_many(self):
        first = start(PAIR, ((0, None),), 1)
        deeds = (("copy", 0, 0, 1), ("drop", 0, 1)) * 200
        for many in (1, 2, 399, 400):
            behind = first[:2] + (((0, 0 if many % 2 else None),),) + first[3:]
            self.assert_told(behind, led, book=WHOLE, standing=first, deeds=deeds[:many])
        for many in (401, 402, 800):
            self.assert_raised(
                TooMany, {"limit": 400}, led, book=WHOLE, standing=first, deeds=(deeds * 2)[:many])

    def test_too_many_is_told_ahead_of_refused(self):
        first = start(PAIR, ((0, None),), 1)
        for wrong in (None, ("scan", 0), []):
            self.assert_raised(TooMany, {"limit": 400}, led, book=WHOLE, standing=first, deeds=(wrong,) * 401)
            self.assert_raised(Refused, {"deed": wrong}, led, book=WHOLE, standing=first, deeds=(wrong,) * 400)

    def test_the_first_refused_one_when_its_turn_comes(self):
        first = start(PAIR, ((0, None),), 1)
        self.assert_raised(
            Refused, {"deed": ("look", 0)}, led, book=WHOLE, standing=first,
            deeds=(("look", 0), ("scan", 0), ("look", 0), ("scan", 0), None))
        self.assert_raised(
            Refused, {"deed": ("read", 0, 0, 0, 1)}, led, book=WHOLE, standing=first,
            deeds=(("drop", 0, 0), ("read", 0, 0, 0, 1), ("read", 0, 1, 0, 1)))
        self.assert_raised(
            Refused, {"deed": "look 0"}, led, book=WHOLE, standing=first, deeds=("look 0", ("scan", 0)))

    def test_one_behind_another(self):
        chance = random.Random(13)
        for standing in [COLOURS, *random_standings()[::6]]:
            for book in chance.sample(KNOWN + random_books(10), 2):
                deeds = random_run(chance, book, standing, 25)
                marked = Marked(standing)
                for deed in deeds:
                    marked.do(book, deed)
                self.assertEqual(led(book, standing, deeds), marked.standing())
                half = led(book, standing, deeds[:10])
                self.assertEqual(led(book, half, deeds[10:]), marked.standing())

    def test_four_hundred_deeds_over_forty_cells_quickly(self):
        chance = random.Random(14)
        begun = start(FULL_HANDS[0][:30] + ((),) * 6, ((0, 10, 20, None),) * 4, 4)
        heap = tuple(tuple(min(item, 35) for item in fields) for fields in begun[0])
        standing = (heap,) + begun[1:]
        deeds = random_run(chance, hybrid(True), standing, 400)
        self.assertEqual(len(deeds), 400)
        with Quickly(5):
            for _ in range(10):
                led(hybrid(True), standing, deeds)


def random_steps():
    """Many quadruples of a book, a standing, a deed done there, and the standing behind it."""
    chance = random.Random(15)
    books = pool() + KNOWN
    steps = []
    for standing in [COLOURS, turned(COLOURS), start(PAIR, ((0, None), (2,)), 2), *random_standings()[::4]]:
        for book in chance.sample(books, 3):
            here = standing
            for deed in random_run(chance, book, standing, 15):
                behind = after(book, here, deed)
                steps.append((book, here, deed, behind))
                here = behind
    return steps


class WhatHoldsTest(GuardCase):
    """[C6], over random runs."""

    @classmethod
    def setUpClass(cls):
        cls.steps = random_steps()

    def test_what_comes_behind_is_a_standing_of_the_same_size(self):
        for _, here, deed, behind in self.steps:
            self.assertIsNone(standing_error(behind))
            self.assertEqual(len(behind[0]), len(here[0]))
            self.assertEqual([len(rooms) for rooms in behind[2]], [len(rooms) for rooms in here[2]])
            for cell, mark in enumerate(here[1]):
                if mark != "free":
                    self.assertNotEqual(behind[1][cell], "free")
                    self.assertEqual(len(behind[0][cell]), len(here[0][cell]))
            for was, now in zip(here[3], behind[3]):
                self.assertGreaterEqual(now, was)

    def test_what_becomes_white_and_what_black_becomes(self):
        for book, here, deed, behind in self.steps:
            for was, now in zip(here[1], behind[1]):
                if now == "white" and was != "white":
                    self.assertEqual((deed[0], was), ("make", "free"))
                if was == "black" and now != "black":
                    self.assertEqual((now, deed[0]), (0, "write"))
                    self.assertIn("again", [entry[3] for entry in guards_asked(book, here, deed)])

    def test_whole_cells_have_no_other_mark_than_nought(self):
        for book, here, deed, behind in self.steps:
            if not book[4] and not {1, 2} & set(here[1]):
                self.assertFalse({1, 2} & set(behind[1]))

    def test_books_tell_marks_alone(self):
        plain = plain_book(False, False)
        for _, here, deed, behind in self.steps:
            other = after(plain, here, deed)
            self.assertEqual((other[0], other[2], other[3]), (behind[0], behind[2], behind[3]))
            self.assertIsNone(deed_error(here, deed))

    def test_more_entries_shade_no_less(self):
        chance = random.Random(16)
        for book, here, deed, behind in self.steps:
            more = [*told_by(book), *chance.sample(ENTRIES, 5)]
            made = tuple("black" if colour == "white" else colour for colour in book[2])
            other = after(book_of(more, made, book[4]), here, deed)
            for mark, marked in zip(behind[1], other[1]):
                self.assertFalse(mark != "white" and marked == "white", (book, more, here, deed))

    def test_what_hands_come_to(self):
        for _, here, deed, behind in self.steps:
            made = {here[1].index("free")} if deed[0] == "make" else set()
            self.assertLessEqual(set(reached(behind)), set(reached(here)) | made)
            if deed[0] in ("look", "scan"):
                self.assertEqual(reached(behind), reached(here))

    def test_where_nothing_is_asked_the_plain_book_does_the_same(self):
        asked_of = 0
        for book, here, deed, behind in self.steps:
            asked = guards_asked(book, here, deed)
            self.assertEqual(asked, tuple(sorted(asked)))
            self.assertLessEqual(set(asked), set(told_by(book)))
            if asked:
                asked_of += 1
            else:
                self.assertEqual(after(plain_book(book[3], book[4]), here, deed), behind)
        self.assertGreater(asked_of, 50)


if __name__ == "__main__":
    unittest.main()
