"""[I2]: which values are programs."""

import itertools
import unittest

from guardbooks.programs import program_error, programs_error
from guardbooks.standings import start
from tests.standingpool import FULL_HANDS
from tests.support import GuardCase, ODD_VALUES, STANDING

DROP = ("drop", 3)
LETTERS = {"drop": "i", "copy": "ij", "make": "in", "read": "ifj", "write": "ifk"}
ALLOWED = {"i": range(4), "j": range(4), "n": range(4), "f": range(3), "k": (None, 0, 1, 2, 3)}
NUMBERS = (None, True, False, -1, 0, 1, 2, 3, 4, 10 ** 30, "0", (0,), [])


def is_line(value):
    """Whether value is a line, told letter by letter."""
    if type(value) is not tuple or not value or type(value[0]) is not str or value[0] not in LETTERS:
        return False
    if len(value) != len(LETTERS[value[0]]) + 1:
        return False
    return all(
        (type(item) is int or item is None) and item in ALLOWED[letter]
        for letter, item in zip(LETTERS[value[0]], value[1:]))


def fault_of(value):
    if type(value) is not tuple or len(value) > 6:
        return "form"
    wrong = [at for at, item in enumerate(value) if not is_line(item)]
    return ("line", wrong[0]) if wrong else None


class ProgramErrorTest(GuardCase):

    def test_lines(self):
        """Every word with each number within its bounds, and beyond them, and with too many and too few."""
        for word, letters in LETTERS.items():
            for numbers in itertools.product(*[NUMBERS if len(letters) < 3 else NUMBERS[1:9:2] + (None, 2) for _ in letters]):
                line = (word,) + numbers
                expected = None if is_line(line) else ("line", 0)
                self.assertEqual(program_error((line,)), expected, line)
            right = (word,) + (0,) * len(letters)
            self.assert_told(None, program_error, value=(right,))
            for wrong in (
                    right + (0,), right[:-1], list(right), (word.upper(),) + right[1:], right[1:], (right,), word,
                    (right[0], [0]) + right[2:], (None,) + right[1:], ([word],) + right[1:], ({},) + right[1:]):
                self.assert_told(("line", 0), program_error, value=(wrong,))

    def test_the_least_and_greatest_numbers(self):
        for line in (
                ("drop", 0), ("drop", 3), ("copy", 3, 3), ("make", 3, 3), ("make", 0, 0), ("read", 3, 2, 3),
                ("write", 3, 2, 3), ("write", 0, 0, None)):
            self.assert_told(None, program_error, value=(line,))
        for line in (
                ("drop", 4), ("drop", -1), ("copy", 4, 0), ("copy", 0, 4), ("make", 0, 4), ("make", 4, 0), ("read", 0, 3, 0),
                ("read", 4, 0, 0), ("read", 0, 0, 4), ("read", 0, 0, None), ("write", 0, 3, 0), ("write", 4, 0, 0),
                ("write", 0, 0, 4), ("write", 0, None, 0), ("write", None, 0, 0), ("drop", None), ("copy", 0, None)):
            self.assert_told(("line", 0), program_error, value=(line,))

    def test_deeds_of_the_marker_are_no_lines(self):
        for line in (("look", 0), ("scan", 0), ("look",), ("mark", 1), ("sweep",), ("drop", 0, 0), ("read", 0, 0, 0, 0)):
            self.assert_told(("line", 0), program_error, value=(line,))

    def test_how_many_lines(self):
        for many in range(7):
            self.assert_told(None, program_error, value=(DROP,) * many)
        for many in (7, 8, 4000):
            self.assert_told("form", program_error, value=(DROP,) * many)
        self.assert_told("form", program_error, value=(None,) * 7)
        self.assert_told(("line", 0), program_error, value=(None,) * 6)

    def test_the_first_wrong_line(self):
        for at in range(6):
            value = (DROP,) * at + (("drop", 4),) + (None,) * (5 - at)
            self.assert_told(("line", at), program_error, value=value)

    def test_odd_values(self):
        for value in ODD_VALUES:
            self.assert_told(fault_of(value), program_error, value=value)
            self.assert_told(("line", 1), program_error, value=(DROP, value, DROP))


class ProgramsErrorTest(GuardCase):

    def test_how_many_programs(self):
        for hands in range(1, 5):
            standing = start((), ((None,),) * hands, 0)
            for many in range(6):
                expected = None if many == hands else "form"
                self.assert_told(expected, programs_error, standing=standing, value=((DROP,),) * many)
                self.assert_told(expected, programs_error, standing=standing, value=((),) * many)
            self.assert_told("form", programs_error, standing=standing, value=[()] * hands)

    def test_the_first_wrong_program(self):
        right, line, form = (DROP,), (DROP, None), [DROP]
        for value, expected in (
                ((right, line), ("program", 1, ("line", 1))), ((line, form), ("program", 0, ("line", 1))),
                ((form, line), ("program", 0, "form")), ((right, form), ("program", 1, "form")),
                (((DROP,) * 7, right), ("program", 0, "form")), (((DROP,) * 6, right), None)):
            self.assert_told(expected, programs_error, standing=STANDING, value=value)

    def test_odd_values(self):
        for value in ODD_VALUES:
            expected = "form"
            if type(value) is tuple and len(value) == 4:
                faults = [("program", hand, fault_of(item)) for hand, item in enumerate(value)]
                expected = next((fault for fault in faults if fault[2] is not None), None)
            self.assert_told(expected, programs_error, standing=FULL_HANDS, value=value)
            fault = fault_of(value)
            expected = None if fault is None else ("program", 1, fault)
            self.assert_told(expected, programs_error, standing=STANDING, value=((DROP,), value))

    def test_standings_play_no_part_but_by_their_hands(self):
        """Lines that cannot be done are lines all the same."""
        empty = start((), ((None,),), 0)
        for line in (("read", 3, 2, 3), ("make", 3, 3), ("write", 0, 0, None), ("copy", 3, 2)):
            self.assert_told(None, programs_error, standing=empty, value=((line,),))


if __name__ == "__main__":
    unittest.main()
