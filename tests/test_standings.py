"""[A6], [A7], [A8], and of [A10] what is said of start."""

import itertools
import unittest

from guardbooks.errors import BadHeap, BadStanding, Unfit
from guardbooks.heaps import heap_error
from guardbooks.standings import colour_of, standing_error, start
from tests.support import GuardCase, ODD_VALUES, PAIR, Quickly, STANDING

HEAP = ((1, None), (None,), (), (2, 3, 0), ())
MARKS = (1, "white", "black", 2, "free")
HANDS = ((0, None, 3), (2,))
LOOKED = (True, False)


class StandingErrorTest(GuardCase):

    def assert_error(self, expected, value):
        self.assert_told(expected, standing_error, value=value)

    def with_marks(self, expected, marks, heap=HEAP):
        self.assert_error(expected, (heap, marks, ((None,),), (False,)))

    def with_hands(self, expected, hands):
        looked = (False,) * len(hands) if isinstance(hands, tuple) else (False,)
        self.assert_error(expected, (HEAP, MARKS, hands, looked))

    def test_standings(self):
        for value in (
                (HEAP, MARKS, HANDS, LOOKED), STANDING, ((), (), ((None,),), (True,)),
                (((),), ("free",), ((None,),), (True,)), (((0,),), (0,), ((0,),), (False,)),
                (((),) * 40, ("free",) * 40, ((None,) * 4,) * 4, (True, False, True, False)),
                (((39, 0, 39),) * 40, (2,) * 40, ((39,) * 4,) * 4, (False,) * 4)):
            self.assert_error(None, value)

    def test_form(self):
        right = (HEAP, MARKS, HANDS, LOOKED)
        for value in (right[:3], right + (None,), right[:1], (), list(right), None, True, 4, "form", {}):
            self.assert_error("form", value)

    def test_odd_values(self):
        for value in ODD_VALUES:
            if not isinstance(value, tuple) or len(value) != 4:
                self.assert_error("form", value)
            elif value == STANDING:
                self.assert_error(None, value)
            elif value == ((),) * 4:
                self.assert_error("hands", value)
            else:
                self.assert_error(("heap", heap_error(value[0])), value)

    def test_odd_items(self):
        """Each of the four items may be anything."""
        for value in ODD_VALUES:
            error = heap_error(value)
            # With no marks only the heap without cells is right.
            rest = ((), ((None,),), (True,))
            self.assert_error(("heap", error) if error else None if value == () else "marks", (value,) + rest)
            if not isinstance(value, tuple) or len(value) != 5:
                self.assert_error("marks", (HEAP, value, HANDS, LOOKED))
            else:
                self.assert_error(("mark", 2 if value[0] == 0 else 0), (HEAP, value, HANDS, LOOKED))
            if not isinstance(value, tuple) or not 1 <= len(value) <= 4:
                self.assert_error("hands", (HEAP, MARKS, value, LOOKED))
            if not isinstance(value, tuple) or len(value) != 2:
                self.assert_error("looked", (HEAP, MARKS, HANDS, value))

    def test_heap(self):
        for heap in (None, [()], ((),) * 41, (None,), ([],), ((9,),), ((True,),)):
            self.assert_error(("heap", heap_error(heap)), (heap,) + (MARKS, HANDS, LOOKED))

    def test_how_many_marks(self):
        for marks in (MARKS[:4], MARKS + ("free",), (), list(MARKS), "white", None):
            self.with_marks("marks", marks)
        for many in range(1, 41):
            self.with_marks(None, ("white",) * many, ((),) * many)
            self.with_marks("marks", ("white",) * (many - 1), ((),) * many)
            self.with_marks("marks", ("white",) * (many + 1), ((),) * many)

    def test_marks_at_the_greatest_number_and_one_more(self):
        for many in range(4):
            heap = ((), (None,) * many)
            for mark in range(many):
                self.with_marks(None, ("white", mark), heap)
            for mark in (many, many + 1, -1, 10 ** 399):
                self.with_marks(("mark", 1), ("white", mark), heap)

    def test_odd_marks(self):
        for value in ODD_VALUES + ["grey", "White", "free ", "looked", "", ("white",), ["free"]]:
            if isinstance(value, str) and value in ("free", "white", "black"):
                continue
            if type(value) is int and value in (0, 1):
                self.with_marks(None, (value, "white", "black", value, "free"))
            else:
                self.with_marks(("mark", 1), ("white", value, "black", "white", "free"))
            self.with_marks(("mark", 2), ("white", "white", value, value, value))

    def test_bools_are_no_marks(self):
        for mark in (True, False):
            self.with_marks(("mark", 0), (mark, "white", "white", "white", "white"))
            self.with_marks(("mark", 3), ("white", "white", "white", mark, "white"))

    def test_how_many_hands(self):
        for many in (1, 2, 3, 4):
            self.with_hands(None, ((0,),) * many)
        for many in (0, 5, 6, 40):
            self.with_hands("hands", ((0,),) * many)

    def test_how_many_rooms(self):
        for many in (1, 2, 3, 4):
            self.with_hands(None, ((0,) * many, (None,) * many))
        for many in (0, 5, 6, 40):
            self.with_hands(("hand", 0), ((0,) * many, (None,)))
            self.with_hands(("hand", 3), ((0,), (0,), (0,), (0,) * many))

    def test_odd_hands(self):
        for value in ODD_VALUES:
            if not isinstance(value, tuple) or not 1 <= len(value) <= 4:
                self.with_hands(("hand", 0), (value,))
                self.with_hands(("hand", 1), ((0,), value, (9,), None))

    def test_odd_rooms(self):
        for value in ODD_VALUES:
            if value is None or (type(value) is int and value in (0, 1)):
                self.with_hands(None, ((value,),))
            else:
                self.with_hands(("room", 0, 0), ((value,),))
                self.with_hands(("room", 1, 2), ((0, None), (0, 1, value, value), (value,)))

    def test_rooms_at_the_greatest_number_and_one_more(self):
        self.with_hands(None, ((3, 2, 1, 0),))
        self.with_hands(("room", 0, 1), ((3, 5, 4),))
        self.with_hands(("room", 0, 1), ((3, -1),))
        for item in (True, False):
            self.with_hands(("room", 1, 0), ((3,), (item,)))

    def test_looked(self):
        for looked in ((True,), (True, False, True), (), [True, False], None, True, "", {}):
            self.assert_error("looked", (HEAP, MARKS, HANDS, looked))
        for item in ODD_VALUES:
            if not isinstance(item, bool):
                self.assert_error(("looked", 0), (HEAP, MARKS, HANDS, (item, item)))
                self.assert_error(("looked", 1), (HEAP, MARKS, HANDS, (True, item)))
        for looked in itertools.product((True, False), repeat=2):
            self.assert_error(None, (HEAP, MARKS, HANDS, looked))

    def test_free_cells_are_not_in_use(self):
        self.with_marks(("free", 0), ("free",) + MARKS[1:])
        self.with_marks(("free", 1), MARKS[:1] + ("free",) + MARKS[2:])
        # The cell 2 has no fields, but the cell 3 names it.
        self.with_marks(("free", 2), MARKS[:2] + ("free",) + MARKS[3:])
        self.assert_error(("free", 4), (HEAP, MARKS, ((None, 4),), (False,)))
        self.assert_error(("free", 4), (HEAP, MARKS, ((0,), (1,), (2, 3), (None, 1, 2, 4)), (False,) * 4))
        self.with_marks(("free", 0), ("free",), ((None,),))
        self.with_marks(("free", 0), ("free",), ((0,),))
        self.with_marks(("free", 1), ("free", "free", "white"), ((), (None, None, None), ()))
        self.with_marks(None, ("free", "white", "free", "black", "free"), ((), (1,), (), (1, 3), ()))
        self.with_marks(("free", 39), ("white",) * 39 + ("free",), ((39,),) + ((),) * 39)

    def test_the_first_fault_is_told(self):
        """Up to four faults at once, one of each item; a free cell in use is told last."""
        heaps = ((None, HEAP), (("heap", ("field", 0, 0)), ((5,),) + HEAP[1:]), (("heap", "form"), list(HEAP)))
        marks = (
            (None, MARKS), ("marks", MARKS[:4]), ("marks", list(MARKS)), (("mark", 2), MARKS[:2] + (0, True, "free")),
            (("mark", 0), ("grey",) + MARKS[1:]), (("free", 1), MARKS[:1] + ("free",) + MARKS[2:]))
        hands = (
            (None, HANDS), ("hands", ()), ("hands", list(HANDS)), (("hand", 1), ((9,), ())),
            (("hand", 0), ([], None)), (("room", 0, 1), ((4, 5), (True,))), (("free", 4), ((4,), (None,))))
        looked = ((None, LOOKED), ("looked", (True,)), (("looked", 1), (False, 0)), (("looked", 0), (None, None)))
        for parts in itertools.product(heaps, marks, hands, looked):
            found = [error for error, _ in parts if error is not None]
            early = [error for error in found if error[0] != "free"]
            late = sorted(error for error in found if error[0] == "free")
            expected = (early + late + [None])[0]
            value = tuple(item for _, item in parts)
            self.assertEqual(told_of(value), repr(expected))
            self.assert_error("form", value[:3])
        for parts in itertools.product(heaps[:2], marks[:4], hands[:4], looked[:2]):
            self.outcome_of(standing_error, value=tuple(item for _, item in parts))

    def test_two_of_one_item(self):
        self.with_marks(("mark", 1), ("white", "grey", 0, 3, "free"))
        self.with_hands(("hand", 1), ((0,), (), []))
        self.with_hands(("hand", 2), ((9, True), (0,), ()))
        self.with_hands(("room", 0, 1), ((0, 5), (6,)))
        self.assert_error(("looked", 0), (HEAP, MARKS, HANDS, (0, 1)))
        self.with_marks(("free", 0), ("free",) * 5)

    def test_quickly(self):
        value = (((39, 38, 37),) * 40, (2,) * 40, ((39,) * 4,) * 4, (False,) * 4)
        with Quickly(5):
            for _ in range(1000):
                standing_error(value)


def told_of(value):
    return repr(standing_error(value))


class StartTest(GuardCase):

    def assert_started(self, heap, hands, many):
        cells = heap + ((),) * many
        marks = ("white",) * len(heap) + ("free",) * many
        expected = (cells, marks, hands, (False,) * len(hands))
        self.assert_told(expected, start, heap=heap, hands=hands, many=many)
        self.assert_told(None, standing_error, value=expected)

    def test_standings(self):
        self.assert_started(PAIR, ((0, None),), 1)
        self.assert_started((), ((None,),), 0)
        self.assert_started((), ((None,) * 4,) * 4, 40)
        self.assert_started(HEAP, HANDS, 0)
        self.assert_started(HEAP, ((4, 3, 2, 1), (0,), (None,)), 7)
        self.assert_started(((39, 0, 39),) * 40, ((39,) * 4,) * 4, 0)

    def test_how_many_free_cells(self):
        for many in range(41):
            heap = ((),) * many
            self.assert_started(heap, ((None,),), 0)
            self.assert_started(heap, ((None,),), 40 - many)
            for wrong in (41 - many, 42 - many, -1, 10 ** 399, True, False, None, "0", (0,), [0], {}):
                self.assert_raised(Unfit, {}, start, heap=heap, hands=((None,),), many=wrong)

    def test_how_many_hands_and_rooms(self):
        for many in (1, 2, 3, 4):
            self.assert_started(PAIR, ((0, None),) * many, 2)
            self.assert_started(PAIR, ((0,) * many,), 2)
        for many in (0, 5, 6):
            self.assert_raised(BadStanding, {"error": "hands"}, start, heap=PAIR, hands=((0,),) * many, many=1)
            self.assert_raised(
                BadStanding, {"error": ("hand", 1)}, start, heap=PAIR, hands=((0,), (0,) * many), many=1)

    def test_rooms(self):
        for room, error in ((3, ("free", 3)), (4, ("free", 4)), (5, ("room", 1, 1)), (-1, ("room", 1, 1)),
                            (True, ("room", 1, 1)), ("0", ("room", 1, 1))):
            self.assert_raised(
                BadStanding, {"error": error}, start, heap=PAIR, hands=((0,), (None, room)), many=2)
        # The least free cell that is held is told, wherever it is held.
        self.assert_raised(BadStanding, {"error": ("free", 3)}, start, heap=PAIR, hands=((5, 4), (3,)), many=3)

    def test_odd_heaps(self):
        for value in ODD_VALUES:
            error = heap_error(value)
            if error is None:
                self.assert_started(value, ((None,),), 1)
            else:
                self.assert_raised(BadHeap, {"error": error}, start, heap=value, hands=((None,),), many=1)

    def test_odd_hands(self):
        for value in ODD_VALUES:
            kind, told = self.outcome_of(start, heap=PAIR, hands=value, many=1)
            if isinstance(value, tuple) and standing_error((PAIR, ("white",) * 3, value, (True,) * len(value))) is None:
                self.assertEqual(kind, "value")
            else:
                self.assertIs(kind, BadStanding)
                self.assertIn(told["error"][0] if isinstance(told["error"], tuple) else told["error"],
                              ("hands", "hand", "room"))

    def test_odd_numbers(self):
        for value in ODD_VALUES:
            if type(value) is int and 0 <= value <= 37:
                self.assert_started(PAIR, ((0,),), value)
            else:
                self.assert_raised(Unfit, {}, start, heap=PAIR, hands=((0,),), many=value)

    def test_the_first_fault_is_told(self):
        heaps = ((None, PAIR), ("form", list(PAIR)), (("cell", 1), ((), None)), (("field", 0, 0), ((7,),)))
        numbers = ((None, 1), (Unfit, 38), (Unfit, -1), (Unfit, True), (Unfit, None))
        hands = ((None, ((0,),)), ("hands", ()), ("hands", [(0,)]), (("hand", 1), ((9,), ())),
                 (("room", 0, 0), ((9, 3),)), (("free", 3), ((0, 3),)))
        for (bad_heap, heap), (bad_many, many), (bad_hands, held) in itertools.product(heaps, numbers, hands):
            named = {"heap": heap, "hands": held, "many": many}
            if bad_heap is not None:
                self.assert_raised(BadHeap, {"error": bad_heap}, start, **named)
            elif bad_many is not None:
                self.assert_raised(Unfit, {}, start, **named)
            elif bad_hands is not None:
                self.assert_raised(BadStanding, {"error": bad_hands}, start, **named)
            else:
                self.assert_started(heap, held, many)

    def test_start_of_what_was_started(self):
        """What the package returned may be handed in again."""
        begun = start(PAIR, ((0,),), 2)
        self.assert_started(begun[0], begun[2], 35)
        self.assert_raised(Unfit, {}, start, heap=begun[0], hands=begun[2], many=36)
        self.assert_raised(BadHeap, {"error": ("cell", 0)}, start, heap=begun, hands=begun[2], many=0)


class ColourOfTest(GuardCase):

    def test_all_marks(self):
        heap = ((), (None,), (None, None), (None, None, None), (), ())
        for marks, colours in (
                (("free", "white", "black", 0, "black", "white"), [None, 0, 2, 1, 2, 0]),
                (("white", 0, 1, 2, "free", "black"), [0, 1, 1, 1, None, 2]),
                (("black", 0, 0, 1, "white", "free"), [2, 1, 1, 1, 0, None])):
            standing = (heap, marks, ((None,),), (True,))
            self.assertIsNone(standing_error(standing))
            for cell, colour in enumerate(colours):
                self.assert_told(colour, colour_of, standing=standing, cell=cell)

    def test_forty_cells(self):
        standing = (((),) * 40, ("free", "white", "black", "white") * 10, ((1,),), (False,))
        colours = [self.value_of(colour_of, standing=standing, cell=cell) for cell in range(40)]
        self.assertEqual(colours, [None, 0, 2, 0] * 10)

    def test_of_start(self):
        standing = start(PAIR, ((0,),), 2)
        self.assertEqual([colour_of(standing, cell) for cell in range(5)], [0, 0, 0, None, None])


if __name__ == "__main__":
    unittest.main()
