"""[B4], and of [B6] what is said of texts."""

import itertools
import random
import unittest

from guardbooks.booktexts import book_text, entry_text, read_book, read_entry
from guardbooks.errors import BadText
from tests.bookpool import ENTRIES, MAKES, READS, WRITES, bare, book_of, full, pool, told_by
from tests.support import GuardCase, ODD_VALUES, Quickly

PHASES = ("unlooked", "looked")
COLOURS = ("white", "grey", "black")

ENTRY_TEXTS = {("last",): "last"}
ENTRY_TEXTS.update({entry: f"make {PHASES[entry[1]]}" for entry in MAKES})
ENTRY_TEXTS.update({entry: f"read {PHASES[entry[1]]} {COLOURS[entry[2]]}" for entry in READS})
ENTRY_TEXTS.update({entry: f"write {PHASES[entry[1]]} {COLOURS[entry[2]]} {entry[3]}" for entry in WRITES})


def lines_of(book):
    """The lines of a book, made without the program."""
    lines = []
    for entry in told_by(book):
        lines.append(ENTRY_TEXTS[entry] + (f" {book[2][entry[1]]}" if entry[0] == "make" else ""))
    return lines + (["pieces"] if book[4] else [])


ALL_LINES = sorted({line for made in ("grey", "black") for line in lines_of(full(made, True))})

# What looks like a line or an entry's text, and is none of either.
NEAR_LINES = (
    "", " ", "last ", " last", "Last", "LAST", "last last", "piece", "pieces ", " pieces", "make", "make ",
    "make looked ", "make  looked black", "make looked black ", "make looked white", "make looked green", "make 1",
    "make looked black old", "read", "read looked", "read looked  grey", "read looked grey ", "read looked green",
    "read grey looked", "read looked grey old", "write looked black", "write looked black  old", "write looked old",
    "write looked black white", "write looked black old ", "write looked black old new", "write 1 2 old", "last\r",
    "write black looked old", "look", "none", "last\tpieces", "('last',)", "last;", "-", "0", "x" * 20000)


class EntryTextTest(GuardCase):

    def test_all_entries(self):
        self.assertEqual(len(set(ENTRY_TEXTS.values())), 27)
        for entry, text in ENTRY_TEXTS.items():
            self.assert_told(text, entry_text, entry=entry)
            self.assert_told(entry, read_entry, value=text)

    def test_texts_of_none(self):
        for value in NEAR_LINES + (
                "make looked black", "make unlooked grey", "pieces", "last\n", "\nlast", "last\nlast"):
            self.assert_raised(BadText, {"place": 0}, read_entry, value=value)
        for text in ENTRY_TEXTS.values():
            for value in (text + " ", " " + text, text + "\n", text.upper(), text[:-1], text[1:], [text], (text,)):
                self.assert_raised(BadText, {"place": 0}, read_entry, value=value)

    def test_odd_values(self):
        for value in ODD_VALUES + ENTRIES + [list(entry) for entry in ENTRIES]:
            if value != "last":
                self.assert_raised(BadText, {"place": 0}, read_entry, value=value)


class BookTextTest(GuardCase):

    def test_texts(self):
        for book in pool():
            text = "".join(line + "\n" for line in lines_of(book))
            self.assert_told(text, book_text, book=book)
            self.assert_told(book, read_book, value=text)

    def test_bare_and_full(self):
        self.assert_told("", book_text, book=bare(False, False))
        self.assert_told("pieces\n", book_text, book=bare(False, True))
        self.assert_told("last\npieces\n", book_text, book=bare(True, True))
        for made in ("grey", "black"):
            text = self.value_of(book_text, book=full(made, True))
            self.assertEqual(text.count("\n"), 28)
            self.assertTrue(text.startswith(f"last\nmake unlooked {made}\nmake looked {made}\nread unlooked white\n"))
            self.assertTrue(text.endswith("write looked black old\npieces\n"))

    def test_unlike_books_have_unlike_texts(self):
        texts = {}
        for book in pool():
            self.assertEqual(texts.setdefault(book_text(book), book), book)

    def test_without_the_last_line_feed(self):
        for book in pool():
            self.assert_told(book, read_book, value=book_text(book)[:-1])


class ReadBookTest(GuardCase):

    def assert_bad(self, place, value):
        self.assert_raised(BadText, {"place": place}, read_book, value=value)

    def test_no_line_and_an_empty_one(self):
        self.assert_told(bare(False, False), read_book, value="")
        self.assert_bad(0, "\n")
        self.assert_bad(0, "\n\n")
        self.assert_bad(0, "\nlast")
        self.assert_bad(1, "last\n\n")
        self.assert_bad(1, "last\n\npieces\n")

    def test_lines_in_any_order(self):
        chance = random.Random(11)
        for book in pool():
            lines = lines_of(book)
            chance.shuffle(lines)
            for text in ("\n".join(lines), "".join(line + "\n" for line in lines), "\n".join(lines[::-1])):
                self.assert_told(book, read_book, value=text)

    def test_each_line_alone(self):
        for line in ALL_LINES:
            book = self.value_of(read_book, value=line)
            self.assertEqual(lines_of(book), [line])
            self.assertEqual(repr(read_book(line + "\n")), repr(book))
        self.assertEqual(len(ALL_LINES), 30)

    def test_two_lines(self):
        for one, two in itertools.product(ALL_LINES, repeat=2):
            if one.split()[:2] == two.split()[:2] and (one == two or one.startswith("make")):
                self.assert_bad(1, one + "\n" + two)
            else:
                book = self.value_of(read_book, value=one + "\n" + two)
                self.assertEqual(sorted(lines_of(book)), sorted([one, two]))

    def test_a_line_twice(self):
        text = "".join(line + "\n" for line in lines_of(full("black", True)))
        for line in lines_of(full("black", True)):
            self.assert_bad(28, text + line)
            self.assert_bad(28, text + line + "\n")
        self.assert_bad(1, "pieces\n" * 2500)
        self.assert_bad(2, "last\npieces\nlast\npieces")

    def test_made_twice(self):
        for phase in PHASES:
            for one, two in itertools.product(("grey", "black"), repeat=2):
                self.assert_bad(1, f"make {phase} {one}\nmake {phase} {two}\n")
                self.assert_bad(3, f"make {phase} {one}\nlast\npieces\nmake {phase} {two}")
        self.assert_told(
            book_of(MAKES, ("grey", "black")), read_book, value="make looked black\nmake unlooked grey")

    def test_lines_of_no_book(self):
        for line in NEAR_LINES:
            if line:
                self.assert_bad(0, line)
            self.assert_bad(0, line + "\n")
            self.assert_bad(2, f"pieces\nlast\n{line}\nread looked grey")
        for entry in MAKES:
            self.assert_bad(0, ENTRY_TEXTS[entry])
            self.assert_bad(1, "last\n" + ENTRY_TEXTS[entry] + " white\n")

    def test_the_first_fault_is_told(self):
        self.assert_bad(1, "last\nlast\nnone\n")
        self.assert_bad(1, "last\nnone\nlast\n")
        self.assert_bad(1, "last\n\nnone\nlast\nlast")
        self.assert_bad(2, "make looked grey\npieces\nmake looked black\nmake looked white\n")
        self.assert_bad(0, "make looked white\nmake looked black\nmake looked black\n")

    def test_no_strings(self):
        for value in ODD_VALUES + [["last"], ("last", "pieces"), {"last": True}, b"last".split()]:
            if not isinstance(value, str):
                self.assert_bad(0, value)
            elif value not in ("", "last"):
                self.assert_bad(0, value)

    def test_other_signs_end_no_line(self):
        for sign in ("\r", "\x0b", "\x0c", "\x1c", "\x85", "\u2028", "\r\n"):
            self.assert_bad(0, f"last{sign}pieces{sign}")

    def test_long_texts(self):
        text = book_text(full("grey", True))
        self.assert_bad(28, text + "x" * (20000 - len(text)))
        self.assert_bad(28, text + "\n" * (20000 - len(text)))
        self.assert_bad(0, "x" * 20000)
        self.assert_bad(0, "\n" * 20000)
        self.assert_bad(1, "last\n" * 4000)
        self.assert_bad(0, " " * 19996 + "last")

    def test_quickly(self):
        texts = ("x" * 20000, "\n" * 20000, "last\n" * 4000, "a\n" * 10000, book_text(full("grey", True)))
        with Quickly(10):
            for text in texts * 100:
                for reader in (read_book, read_entry):
                    try:
                        reader(text)
                    except BadText:
                        pass


if __name__ == "__main__":
    unittest.main()
