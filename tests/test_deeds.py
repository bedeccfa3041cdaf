"""[C2]: which values are deeds that can be done."""

import itertools
import unittest

from guardbooks.deeds import deed_error
from guardbooks.standings import start
from tests.deedmodel import LETTERS, fault, told_deeds
from tests.standingpool import NAMED, random_standings
from tests.support import GuardCase, ODD_VALUES, PAIR, Quickly

# Two hands, the first one looked at; a free cell amid; the cell 0 grey, gone through in part.
AMID = (
    ((1, None, 3), (None,), (), (), (0,)), (1, "white", "free", "black", 0),
    ((0, None, 1), (3, 4)), (True, False))
NO_FREE = (((1,), ()), (0, "white"), ((0, None),), (False,))

RIGHT = {
    "look": ("look", 1), "scan": ("scan", 0), "drop": ("drop", 0, 1), "copy": ("copy", 0, 1, 2),
    "make": ("make", 1, 0, 3), "read": ("read", 0, 0, 2, 1), "write": ("write", 1, 1, 0, 1)}


class DeedErrorTest(GuardCase):

    def assert_error(self, expected, value, standing=AMID):
        self.assert_told(expected, deed_error, standing=standing, value=value)

    def test_right_ones(self):
        for value in RIGHT.values():
            self.assert_error(None, value)
        self.assert_error(None, ("write", 0, 0, 1, None))
        # What is dropped, copied, read and written may be nothing; rooms may be the same.
        for value in (("drop", 0, 1), ("copy", 0, 1, 1), ("read", 0, 2, 0, 2), ("write", 0, 2, 0, 1)):
            self.assert_error(None, value)

    def test_form_of_odd_values(self):
        for value in ODD_VALUES:
            self.assert_error("form", value)

    def test_form_with_odd_numbers(self):
        for word, right in RIGHT.items():
            for place in range(1, len(right)):
                for item in ODD_VALUES + [-2, "0", (0,), [0]]:
                    value = right[:place] + (item,) + right[place + 1:]
                    expected = fault(AMID, value)
                    number = type(item) is int and item >= 0
                    nothing = item is None and word == "write" and place == 4
                    self.assertEqual(expected == "form", not (number or nothing), value)
                    self.assert_error(expected, value)

    def test_form_where_nothing_is_written(self):
        right = ("write", 1, 1, 0, None)
        for place in (1, 2, 3):
            for item in ODD_VALUES:
                value = right[:place] + (item,) + right[place + 1:]
                self.assert_error(fault(AMID, value), value)

    def test_form_with_odd_words(self):
        for word, right in RIGHT.items():
            for item in ODD_VALUES + [word.upper(), word + " ", (word,), [word], "see", "looks", word[:-1], "again"]:
                self.assert_error("form", (item,) + right[1:])

    def test_form_with_another_number_of_items(self):
        for word, right in RIGHT.items():
            for many in range(7):
                value = (word,) + (0,) * many
                if many != len(LETTERS[word]):
                    self.assert_error("form", value)
            self.assert_error("form", right[:-1])
            self.assert_error("form", right + (0,))
            self.assert_error("form", right + (None,))
            self.assert_error("form", list(right))
            self.assert_error("form", right[1:])
        self.assert_error("form", ("write", 0, 0, 0, None, None))
        self.assert_error("form", ("write", 0, 0, None, 0))
        self.assert_error("form", ("write", None, None, None, None))

    def test_hand(self):
        for hand in (2, 3, 4, 10 ** 399):
            for word in ("look", "drop", "copy", "make", "read", "write"):
                self.assert_error("hand", (word, hand) + RIGHT[word][2:])
                self.assert_error("hand", (word, hand) + (99,) * (len(LETTERS[word]) - 1))

    def test_room(self):
        for room in (2, 3, 10 ** 399):
            for value in (("drop", 1, room), ("copy", 1, room, 0), ("copy", 1, 0, room), ("make", 1, room, 0),
                          ("read", 1, room, 0, 0), ("read", 1, 1, 0, room), ("write", 1, room, 0, 0),
                          ("write", 1, 1, 0, room), ("write", 1, room, 0, None)):
                self.assert_error("room", value)
        self.assert_error(None, ("drop", 0, 2))
        self.assert_error("room", ("drop", 0, 3))

    def test_cell(self):
        for cell in (5, 6, 40, 10 ** 399):
            self.assert_error("cell", ("scan", cell))
        self.assert_error("cell", ("scan", 0), start((), ((None,),), 0))

    def test_fields(self):
        for many in (0, 1, 2, 3):
            self.assert_error(None, ("make", 0, 1, many))
        for many in (4, 5, 10 ** 399):
            self.assert_error("fields", ("make", 0, 1, many))
            self.assert_error("fields", ("make", 0, 1, many), NO_FREE)

    def test_empty_and_field(self):
        for word in ("read", "write"):
            for field in (0, 3, 99):
                self.assert_error("empty", (word, 0, 1, field, 0))
            for hand, room, field in ((0, 0, 3), (0, 2, 1), (1, 0, 0), (1, 1, 1), (0, 0, 10 ** 399)):
                self.assert_error("field", (word, hand, room, field, 0))
            for hand, room, field in ((0, 0, 2), (0, 2, 0), (1, 1, 0)):
                self.assert_error(None, (word, hand, room, field, 0))
        self.assert_error("field", ("write", 1, 0, 0, None))

    def test_closed(self):
        self.assert_error("closed", ("look", 0))
        for cell in (1, 2, 3):
            self.assert_error("closed", ("scan", cell))
        self.assert_error(None, ("scan", 4))
        self.assert_error("closed", ("make", 0, 1, 0), NO_FREE)
        self.assert_error("closed", ("make", 0, 0, 3), NO_FREE)

    def test_what_is_told_first(self):
        """Deeds with two faults or more, in the order of the document."""
        for expected, value in (
                ("hand", ("read", 2, 9, 9, 9)), ("room", ("read", 0, 1, 9, 9)), ("room", ("read", 0, 9, 9, 0)),
                ("room", ("make", 0, 3, 4)), ("room", ("write", 0, 1, 0, 3)), ("room", ("write", 0, 0, 3, 3)),
                ("empty", ("write", 0, 1, 3, None)), ("hand", ("make", 2, 0, 4)), ("form", ("make", 2, 0, -1)),
                ("form", ("read", 2, 9, 9, True))):
            self.assert_error(expected, value)
        self.assert_error("room", ("make", 0, 2, 0), NO_FREE)
        self.assert_error("room", ("make", 0, 2, 4), NO_FREE)

    def test_all_numbers_of_the_standings(self):
        for standing in (AMID, NO_FREE, start(PAIR, ((0, None),), 1), start((), ((None,),) * 4, 0)):
            told = {}
            for value in told_deeds(standing, beyond=2):
                told[fault(standing, value)] = True
                self.assertEqual(deed_error(standing, value), fault(standing, value), value)
            self.assertIn(None, told)
        for standing in [*NAMED, *random_standings()[::5]]:
            for value in itertools.islice(told_deeds(standing, beyond=1), 0, None, 7):
                self.assertEqual(deed_error(standing, value), fault(standing, value), (standing, value))

    def test_quickly(self):
        standing = (((39, 38, 37),) * 40, (2,) * 40, ((39,) * 4,) * 4, (False,) * 4)
        with Quickly(5):
            for value in told_deeds(standing):
                deed_error(standing, value)


if __name__ == "__main__":
    unittest.main()
