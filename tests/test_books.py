"""[B1], [B2], [B3], and of [B6] what is said of entries."""

import itertools
import random
import unittest

from guardbooks.books import book_error, entries, is_entry, plain_book, with_entry, without
from guardbooks.knownbooks import baker, dijkstra, hybrid, steele, yuasa
from tests.bookpool import (
    ENTRIES, GUARDS, NO_GUARDS, NO_READS, WORDS, bare, book_of, full, pool, random_books, told_by)
from tests.support import BOOK, GuardCase, ODD_VALUES, Quickly

E, F, W = ((), (), ()), (False, False, False), ("white", "white")


def put(row, places, item):
    """The nested tuple row with item where places lead to."""
    if not places:
        return item
    rows = list(row)
    rows[places[0]] = put(row[places[0]], places[1:], item)
    return tuple(rows)


class BookErrorTest(GuardCase):

    def assert_error(self, expected, value):
        self.assert_told(expected, book_error, value=value)

    def test_books(self):
        for book in pool():
            self.assert_error(None, book)
        for makes in itertools.product(("white", "grey", "black"), repeat=2):
            self.assert_error(None, (NO_GUARDS, NO_READS, makes, True, False))

    def test_known_books(self):
        for maker in (dijkstra, steele, yuasa, baker, hybrid):
            for pieces in (False, True):
                self.assert_error(None, maker(pieces))

    def test_odd_values(self):
        for value in ODD_VALUES:
            self.assert_error(None if value == BOOK else "form", value)

    def test_form(self):
        right = bare(True, False)
        for value in (right[:4], right + (True,), list(right), right[:1], (right,), {0: right}):
            self.assert_error("form", value)
        rows = (E, (E,), (E, E, E), [E, E], (list(E), E), (E, list(E)), (E[:2], E), (E, E[:2]),
                (E + ((),), E), (E, E + ((),)), ((), ()), "", None)
        for value in rows + tuple(ODD_VALUES):
            self.assert_error("form", (value,) + right[1:])
            self.assert_error("form", right[:1] + (value,) + right[2:])
        for reads in ((F + (False,), F), (F, F + (False,)), (F[:2], F), (F, F[:2]), (F, F, F), (F,), F, [F, F]):
            self.assert_error("form", right[:1] + (reads,) + right[2:])
        for value in ODD_VALUES + [list(W), W[:1], W + ("white",), "ww"]:
            if not isinstance(value, tuple) or len(value) != 2:
                self.assert_error("form", right[:2] + (value,) + right[3:])

    def test_guards(self):
        for many in range(5):
            for guard in itertools.product(WORDS, repeat=many):
                expected = None if guard in GUARDS else ("write", 0, 1)
                self.assert_error(expected, put(bare(False, True), (0, 0, 1), guard))
        self.assertEqual(len(GUARDS), 8)

    def test_odd_guards(self):
        odd = ["new", ["new"], ("New",), ("new", None), (("new",),), ("old", "new"), {"new": 1}, ("white",), ("",)]
        for guard in ODD_VALUES + odd:
            for phase, colour in itertools.product((0, 1), (0, 1, 2)):
                expected = None if guard == () else ("write", phase, colour)
                self.assert_error(expected, put(BOOK, (0, phase, colour), guard))

    def test_odd_reads(self):
        for item in ODD_VALUES + ["True", "old"]:
            for phase, colour in itertools.product((0, 1), (0, 1, 2)):
                expected = None if isinstance(item, bool) else ("read", phase, colour)
                self.assert_error(expected, put(BOOK, (1, phase, colour), item))

    def test_odd_makes(self):
        for item in ODD_VALUES + ["green", "White", "free", "", 2, ("white",), ["black"]]:
            right = isinstance(item, str) and item in ("white", "grey", "black")
            for phase in (0, 1):
                self.assert_error(None if right else ("make", phase), put(BOOK, (2, phase), item))

    def test_odd_last_and_pieces(self):
        for item in ODD_VALUES:
            right = isinstance(item, bool)
            self.assert_error(None if right else "last", BOOK[:3] + (item, True))
            self.assert_error(None if right else "pieces", BOOK[:4] + (item,))

    def test_the_first_fault_is_told(self):
        """Each fault with each further one, and with two further ones, in the order in which they are told."""
        faults = [(("write", phase, colour), (0, phase, colour), ["new"]) for phase in (0, 1) for colour in (0, 1, 2)]
        faults += [(("read", phase, colour), (1, phase, colour), 0) for phase in (0, 1) for colour in (0, 1, 2)]
        faults += [(("make", 0), (2, 0), "green"), (("make", 1), (2, 1), None), ("last", (3,), 1), ("pieces", (4,), 0)]
        for many in (1, 2, 3):
            for some in itertools.combinations(faults, many):
                value = BOOK
                for _, places, item in some:
                    value = put(value, places, item)
                self.assert_error(some[0][0], value)
                self.assert_error("form", value[:4])
        self.assert_error("form", put(put(BOOK, (2,), ("green",)), (0, 0, 0), None))
        self.assert_error("form", put(put(BOOK, (1, 1), (0, 0)), (4,), None))


class PlainBookTest(GuardCase):

    def test_all_four(self):
        for last, pieces in itertools.product((False, True), repeat=2):
            self.assert_told(((E, E), (F, F), W, last, pieces), plain_book, last=last, pieces=pieces)
            self.assert_told(None, book_error, value=plain_book(last, pieces))
            self.assert_told((("last",),) if last else (), entries, book=plain_book(last, pieces))


class IsEntryTest(GuardCase):

    def assert_entry(self, expected, value):
        self.assert_told(expected, is_entry, value=value)

    def test_all_entries(self):
        self.assertEqual(len(ENTRIES), 27)
        for entry in ENTRIES:
            self.assert_entry(True, entry)
            self.assert_entry(False, list(entry))
            self.assert_entry(False, entry[:-1] + (list(entry[-1:]),))
            self.assert_entry(False, entry + (0,))
            self.assert_entry(False, entry[1:])
            self.assert_entry(False, (entry,))
            self.assert_entry(False, " ".join(str(item) for item in entry))

    def test_everything_that_is_near(self):
        items = ("last", "make", "read", "write", "again", "new", "old", 0, 1, 2, 3, -1, True, False, None)
        for many in range(4):
            for value in itertools.product(items, repeat=many):
                expected = repr(value) in [repr(entry) for entry in ENTRIES]
                self.assertIs(is_entry(value), expected, value)
        for value in itertools.product(("write", "read"), items, items, items):
            expected = repr(value) in [repr(entry) for entry in ENTRIES]
            self.assertIs(is_entry(value), expected, value)

    def test_bools_are_no_numbers(self):
        for value in (
                ("make", True), ("make", False), ("read", True, 0), ("read", 0, True), ("read", 1, False),
                ("write", False, 1, "new"), ("write", 1, True, "new")):
            self.assert_entry(False, value)

    def test_wrong_ones(self):
        for value in (
                (), ("Last",), ("last", None), ("make", 2), ("make", -1), ("make", "0"), ("read", 0, 3), ("read", 2, 0),
                ("write", 0, 0, "white"), ("write", 0, 0, ("new",)), ("write", 0, 0, None), ("make", 10 ** 399)):
            self.assert_entry(False, value)

    def test_odd_values(self):
        for value in ODD_VALUES:
            self.assert_entry(False, value)
            self.assert_entry(False, ("make", 0, value))
            self.assert_entry(type(value) is int and value in (0, 1), ("make", value))
            self.assert_entry(False, ("write", 0, 0, value))
            self.assert_entry(isinstance(value, str) and value == "last", (value,))


class EntriesTest(GuardCase):

    def test_entries_of_all(self):
        for book in pool():
            self.assert_told(tuple(told_by(book)), entries, book=book)
            self.assertEqual(list(entries(book)), sorted(entries(book)))

    def test_bare_and_full(self):
        self.assert_told((), entries, book=bare(False, True))
        for made in ("grey", "black"):
            self.assert_told(tuple(sorted(ENTRIES)), entries, book=full(made, False))

    def test_with_each_entry(self):
        for book in pool():
            for entry in ENTRIES:
                told = [*told_by(book), entry]
                made = tuple("black" if item == "white" else item for item in book[2])
                self.assert_told(book_of(told, made, book[4]), with_entry, book=book, entry=entry)

    def test_without_each_entry(self):
        for book in pool():
            for entry in ENTRIES:
                told = [other for other in told_by(book) if other != entry]
                self.assert_told(book_of(told, book[2], book[4]), without, book=book, entry=entry)

    def test_books_stay_books(self):
        for book in random_books(20):
            for entry in ENTRIES:
                self.assertIsNone(book_error(with_entry(book, entry)))
                self.assertIsNone(book_error(without(book, entry)))

    def test_what_is_made(self):
        for made in ("white", "grey", "black"):
            book = (NO_GUARDS, NO_READS, (made, "white"), False, False)
            put_in = "black" if made == "white" else made
            self.assertEqual(with_entry(book, ("make", 0))[2], (put_in, "white"))
            self.assertEqual(with_entry(book, ("make", 1))[2], (made, "black"))
            self.assertEqual(without(book, ("make", 0))[2], ("white", "white"))
            self.assertEqual(without(book, ("make", 1))[2], (made, "white"))

    def test_entries_with_and_without(self):
        for book in pool():
            for entry in ENTRIES:
                self.assertEqual(set(entries(with_entry(book, entry))), {*entries(book), entry})
                self.assertEqual(set(entries(without(book, entry))), {*entries(book)} - {entry})

    def test_in_and_out_again(self):
        for book in pool():
            for entry in ENTRIES:
                if entry not in entries(book):
                    self.assertEqual(repr(without(with_entry(book, entry), entry)), repr(book))

    def test_put_in_one_by_one_in_any_order(self):
        chance = random.Random(5)
        for book in pool():
            told = list(entries(book))
            chance.shuffle(told)
            made = plain_book(False, book[4])
            for entry in told:
                made = with_entry(made, entry)
            blackened = tuple("black" if item == "grey" else item for item in book[2])
            self.assertEqual(repr(made), repr(book[:2] + (blackened,) + book[3:]))

    def test_guards_in_every_order(self):
        for words in itertools.permutations(WORDS):
            book = plain_book(False, False)
            for word in words:
                book = with_entry(book, ("write", 1, 2, word))
                self.assertIsNone(book_error(book))
            self.assertEqual(book[0][1][2], WORDS)
            for word in words:
                book = without(book, ("write", 1, 2, word))
                self.assertIsNone(book_error(book))
            self.assertEqual(book, plain_book(False, False))

    def test_quickly(self):
        with Quickly(10):
            for _ in range(20):
                for entry in ENTRIES:
                    entries(without(with_entry(full("grey", True), entry), entry))
                    is_entry(entry)


if __name__ == "__main__":
    unittest.main()
