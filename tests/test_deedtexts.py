"""[C5], and of [C6] what is said of texts."""

import itertools
import random
import unittest

from guardbooks.deedtexts import deed_text, deeds_text, read_deed, read_deeds
from guardbooks.errors import BadText
from tests.deedmodel import LETTERS
from tests.support import GuardCase, ODD_VALUES, Quickly

NUMBERS = (0, 1, 9, 10, 39, 99)


def some_deeds():
    """Deeds of each word, with numbers from 0 to 99 at each place, and None where it may stand."""
    for word, letters in LETTERS.items():
        for numbers in itertools.product((0, 7, 10, 99), repeat=len(letters)):
            yield (word, *numbers)
    for numbers in itertools.product((0, 5, 99), repeat=3):
        yield ("write", *numbers, None)
    for number in range(100):
        yield ("look", number)
        yield ("drop", 0, number)


def text_of(deed):
    return deed[0] + "".join([" none" if item is None else f" {item}" for item in deed[1:]])


# Of each the text of no deed, though it looks like one.
WRONG = [
    "", " ", "look", "look ", "look  0", " look 0", "look 0 ", "look 0 0", "look 00", "look 01", "look 100",
    "look 1000", "look -1", "look -0", "look +1", "look 1.0", "look 0x1", "look 1_0", "look one", "look none", "look None",
    "look True", "Look 0", "LOOK 0", "see 0", "scan", "scan none", "scan 0 1", "drop 0", "drop 0 1 2", "drop 0 none",
    "copy 0 0", "copy 0 0 none", "copy 0 0 0 0", "make 0 0", "make 0 0 none", "read 0 0 0", "read 0 0 0 none",
    "read 0 0 0 0 0", "write 0 0 0", "write 0 0 none 0", "write none 0 0 0", "write 0 0 0 None", "write 0 0 0 none none",
    "write 0 0 0 0 none", "write 0 0 0 100", "write 0 0 0 01", "write 0 0 0 ", "write  0 0 0 0", "look\t0", "look,0",
    "0 look", "0", "look0", "none", "none none", "pieces", "last", "look 0\n", "\nlook 0", "look 0\nlook 0", "\n",
    "('look', 0)", "look " + "9" * 400, "write" + " 0" * 4000, "look 0" * 3000]


class DeedTextTest(GuardCase):

    def test_texts(self):
        for deed, text in (
                (("look", 3), "look 3"), (("scan", 39), "scan 39"), (("drop", 0, 1), "drop 0 1"),
                (("copy", 1, 2, 3), "copy 1 2 3"), (("make", 0, 0, 0), "make 0 0 0"),
                (("read", 10, 20, 30, 99), "read 10 20 30 99"), (("write", 0, 1, 2, 3), "write 0 1 2 3"),
                (("write", 3, 2, 1, None), "write 3 2 1 none")):
            self.assert_told(text, deed_text, deed=deed)
            self.assert_told(deed, read_deed, value=text)
            self.assert_told(text, deeds_text, deeds=(deed,))
            self.assert_told((deed,), read_deeds, value=text)

    def test_there_and_back(self):
        texts = {}
        for deed in some_deeds():
            text = deed_text(deed)
            self.assertEqual(text, text_of(deed))
            self.assertEqual(repr(read_deed(text)), repr(deed))
            self.assertEqual(texts.setdefault(text, deed), deed)

    def test_deeds_that_can_never_be_done_have_texts(self):
        for deed in (("make", 99, 99, 99), ("scan", 99), ("read", 50, 40, 30, 20)):
            self.assert_told(text_of(deed), deed_text, deed=deed)
            self.assert_told(deed, read_deed, value=text_of(deed))


class ReadDeedTest(GuardCase):

    def test_wrong_texts(self):
        for text in WRONG:
            self.assert_raised(BadText, {"place": 0}, read_deed, value=text)

    def test_odd_values(self):
        for value in ODD_VALUES + [("look", 0), ["look 0"], {"look": 0}]:
            self.assert_raised(BadText, {"place": 0}, read_deed, value=value)

    def test_every_number_of_two_signs_or_three(self):
        """Of all short rows of figures and other signs just the hundred numbers are read."""
        read = []
        for many in (1, 2, 3):
            for signs in itertools.product("0123456789-+ ._", repeat=many):
                try:
                    read.append(read_deed("scan " + "".join(signs)))
                except BadText as error:
                    self.assertEqual(error.place, 0)
        self.assertEqual(read, [("scan", number) for number in range(100)])


class DeedsTextTest(GuardCase):

    def test_rows(self):
        for deeds, text in (
                ((), "none"), ((("look", 0),) * 2, "look 0\nlook 0"),
                ((("write", 0, 0, 0, None), ("scan", 5), ("make", 0, 1, 2)), "write 0 0 0 none\nscan 5\nmake 0 1 2")):
            self.assert_told(text, deeds_text, deeds=deeds)
            self.assert_told(deeds, read_deeds, value=text)

    def test_there_and_back(self):
        chance = random.Random(21)
        deeds = list(some_deeds())
        texts = {}
        for many in [0, 1, 2, 3, 10, 399, 400] * 4:
            row = tuple(chance.choice(deeds) for _ in range(many))
            text = self.value_of(deeds_text, deeds=row)
            self.assertEqual(text, "\n".join([text_of(deed) for deed in row]) or "none")
            self.assert_told(row, read_deeds, value=text)
            self.assertEqual(texts.setdefault(text, row), row)

    def test_four_hundred_and_more(self):
        line = "write 0 0 0 none"
        deed = ("write", 0, 0, 0, None)
        self.assert_told((deed,) * 400, read_deeds, value="\n".join([line] * 400))
        self.assert_told("\n".join([line] * 400), deeds_text, deeds=(deed,) * 400)
        for many in (401, 402, 1100):
            self.assert_raised(BadText, {"place": 400}, read_deeds, value="\n".join([line] * many))
            # A wrong line is told instead, wherever it stands.
            for place in (0, 399, 400, many - 1):
                lines = [line] * many
                lines[place] = "see 0"
                self.assert_raised(BadText, {"place": place}, read_deeds, value="\n".join(lines))

    def test_wrong_lines(self):
        for text in WRONG:
            if "\n" not in text:
                self.assert_raised(BadText, {"place": 1}, read_deeds, value="look 0\n" + text)
                self.assert_raised(BadText, {"place": 0}, read_deeds, value=text + "\n" + text)
                if text != "none":
                    self.assert_raised(BadText, {"place": 0}, read_deeds, value=text)
        for text, place in (
                ("\n", 0), ("look 0\n", 1), ("\nlook 0", 0), ("look 0\n\nlook 0", 1), ("look 0\nscan 0\nlook 00", 2),
                ("none\n", 0), ("none\nnone", 0), ("look 0\nnone", 1), ("look 0 \nlook 0", 0), ("look 0\r\nscan 1", 0),
                ("\n" * 20000, 0), ("look 0\n" * 400, 400), ("look 0\n" * 399, 399), ("look 0\n" * 401, 401)):
            self.assert_raised(BadText, {"place": place}, read_deeds, value=text)

    def test_odd_values(self):
        for value in ODD_VALUES + [("look 0",), (("look", 0),), ["look 0"]]:
            self.assert_raised(BadText, {"place": 0}, read_deeds, value=value)

    def test_quickly(self):
        with Quickly(5):
            for _ in range(20):
                read_deeds("\n".join(["write 10 20 30 40"] * 400))
                self.assertRaises(BadText, read_deeds, "look 1\n" * 2850)
                self.assertRaises(BadText, read_deed, " " * 20000)


if __name__ == "__main__":
    unittest.main()
