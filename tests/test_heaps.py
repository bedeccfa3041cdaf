"""[A4], [A5]: what a heap is, and heap_error."""

import itertools
import unittest

from guardbooks.heaps import heap_error
from tests.support import GuardCase, ODD_VALUES, Quickly

# Values of ODD_VALUES that are heaps.
HEAPS = (
    (), ((),), ((None,),), ((0,),), ((),) * 4, ((),) * 5, ((None,),), ((None, None),))


class HeapErrorTest(GuardCase):

    def assert_error(self, expected, value):
        self.assert_told(expected, heap_error, value=value)

    def test_heaps(self):
        for value in HEAPS + (
                ((1, None), (None,), ()), ((0, 0, 0),), ((0,), (1,)), ((2, 1, 0), (2, 1, 0), (2, 1, 0)),
                ((1,), (0,)), ((), (), (2, None, 0))):
            self.assert_error(None, value)

    def test_zero_to_forty_cells(self):
        for many in (0, 1, 2, 39, 40):
            self.assert_error(None, ((),) * many)
            self.assert_error(None, ((None, None, None),) * many)
            self.assert_error(None, tuple(((cell + 1) % many,) for cell in range(many)))
        self.assert_error(None, ((39, 0, 39),) * 40)
        for many in (41, 42, 400, 4000):
            self.assert_error("form", ((),) * many)

    def test_zero_to_three_fields(self):
        for many in range(4):
            self.assert_error(None, ((0,) * many,))
            self.assert_error(None, ((), (None,) * many))
        for many in (4, 5, 40):
            self.assert_error(("cell", 0), ((0,) * many,))
            self.assert_error(("cell", 1), ((), (None,) * many))

    def test_the_greatest_number_and_one_more(self):
        for many in (1, 2, 3, 40):
            self.assert_error(None, ((many - 1,),) * many)
            self.assert_error(("field", 0, 0), ((many,),) * many)
            self.assert_error(("field", many - 1, 1), ((0,),) * (many - 1) + ((0, many, many),))

    def test_no_heap_at_all(self):
        for value in (None, True, False, 0, 1, 10 ** 399, "", "()", [], [()], {}, {0: ()}, ((),) * 41):
            self.assert_error("form", value)

    def test_odd_cells(self):
        for item in ODD_VALUES:
            if not isinstance(item, tuple) or len(item) > 3:
                self.assert_error(("cell", 0), (item,))
                self.assert_error(("cell", 2), ((), (2, 0), item, None))

    def test_odd_fields(self):
        for item in ODD_VALUES:
            if item is None or (type(item) is int and item in (0, 1)):
                self.assert_error(None, ((None,), (item, item)))
            else:
                self.assert_error(("field", 1, 1), ((None,), (1, item)))

    def test_bools_are_no_numbers(self):
        for item in (True, False):
            self.assert_error(("field", 0, 0), ((item,), ()))
            self.assert_error(("field", 1, 2), ((1,), (0, 1, item)))

    def test_odd_values(self):
        for value in ODD_VALUES:
            self.outcome_of(heap_error, value=value)

    def test_the_first_fault_is_told(self):
        """Faults at several places at once: any cell ahead of any field, then the lesser place."""
        cells = {"right": (None,), "cell": [None], "field": (None, 7)}
        for kinds in itertools.product(cells, repeat=4):
            value = tuple(cells[kind] for kind in kinds)
            if "cell" in kinds:
                self.assert_error(("cell", kinds.index("cell")), value)
            elif "field" in kinds:
                self.assert_error(("field", kinds.index("field"), 1), value)
            else:
                self.assert_error(None, value)
            self.assert_error("form", list(value))
            self.assert_error("form", value * 11)

    def test_the_first_field_of_several(self):
        self.assert_error(("field", 0, 1), ((0, 9, True), (9,)))
        self.assert_error(("field", 1, 0), ((0, 1), ("", -1)))

    def test_quickly(self):
        with Quickly(5):
            for _ in range(1000):
                heap_error(((39, 38, 37),) * 40)


if __name__ == "__main__":
    unittest.main()
