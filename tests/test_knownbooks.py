"""[B5]: the books that are known by a name."""

import unittest

from guardbooks.books import book_error, entries
from guardbooks.booktexts import book_text, read_book
from guardbooks.knownbooks import baker, dijkstra, hybrid, steele, yuasa
from tests.support import GuardCase

NO_READ = ((False, False, False), (False, False, False))
NEW, AGAIN, OLD = ("new",), ("again",), ("old",)

# Of each one the book without pieces and the one with pieces, but for this last item.
BOOKS = {
    dijkstra: (
        ((((), (), NEW), ((), (), NEW)), NO_READ, ("white", "white"), True),
        ((((), NEW, NEW), ((), NEW, NEW)), NO_READ, ("white", "white"), True)),
    steele: (
        ((((), (), AGAIN), ((), (), AGAIN)), NO_READ, ("white", "white"), True),
        ((((), AGAIN, AGAIN), ((), AGAIN, AGAIN)), NO_READ, ("white", "white"), True)),
    yuasa: (
        ((((), (), ()), (OLD, OLD, OLD)), NO_READ, ("white", "black"), False),
        ((((), (), ()), (OLD, OLD, OLD)), NO_READ, ("white", "black"), False)),
    baker: (
        ((((), (), NEW), ((), (), ())), ((False, False, False), (True, True, False)), ("white", "black"), False),
        ((((), NEW, NEW), ((), (), ())), ((False, False, False), (True, True, False)), ("white", "black"), False)),
    hybrid: (
        (((OLD, OLD, NEW), (OLD, OLD, ())), NO_READ, ("black", "black"), False),
        (((OLD, ("new", "old"), NEW), (OLD, OLD, ())), NO_READ, ("black", "black"), False)),
}


class KnownBooksTest(GuardCase):

    def test_all_five(self):
        for maker, (whole, parts) in BOOKS.items():
            self.assert_told(whole + (False,), maker, pieces=False)
            self.assert_told(parts + (True,), maker, pieces=True)

    def test_are_books(self):
        for maker in BOOKS:
            for pieces in (False, True):
                self.assertIsNone(book_error(maker(pieces)))
                self.assertEqual(repr(read_book(book_text(maker(pieces)))), repr(maker(pieces)))

    def test_how_many_entries(self):
        counts = [(len(entries(maker(False))), len(entries(maker(True)))) for maker in BOOKS]
        self.assertEqual(counts, [(3, 5), (3, 5), (4, 4), (4, 5), (7, 8)])

    def test_pieces_are_no_entry(self):
        self.assertEqual(entries(yuasa(False)), entries(yuasa(True)))

    def test_are_defined_there(self):
        for maker in BOOKS:
            self.assertEqual(maker.__module__, "guardbooks.knownbooks")


if __name__ == "__main__":
    unittest.main()
