"""[E1], [E2], [E4], and of [B6] what is said of known books."""

import random
import unittest

from guardbooks.ending import finished, lost
from guardbooks.knownbooks import baker, dijkstra, hybrid, steele, yuasa
from guardbooks.losing import losing
from guardbooks.moving import led
from guardbooks.safety import is_safe, starts_early, ways
from guardbooks.standings import start
from tests.bookpool import ENTRIES, bare, book_of, full, pool, told_by
from tests.deedmodel import random_run
from tests.safetymodel import EARLY, NEVER_NEEDED, near_books, starts_early_by, ways_of
from tests.support import GuardCase

HANDS = (1, 2, 3, 4)
BOTH = [("write", 0, 2, "new"), ("write", 1, 2, "new")]
GREY = [("write", 0, 1, "again"), ("write", 1, 1, "again")]


def books():
    return pool() + near_books(random.Random(41), 400)


def with_more(book, entry):
    made = tuple("black" if colour == "white" else colour for colour in book[2])
    return book_of([*told_by(book), entry], made, book[4])


class StartsEarlyTest(GuardCase):

    def test_each_entry_alone(self):
        for pieces in (False, True):
            for made in (("grey", "grey"), ("black", "black")):
                for entry in ENTRIES:
                    self.assert_told(entry in EARLY, starts_early, book=book_of([entry], made, pieces))
                    rest = [other for other in ENTRIES if other not in EARLY or other == entry]
                    self.assert_told(entry in EARLY, starts_early, book=book_of(rest, made, pieces))

    def test_bare_and_full_ones(self):
        for pieces in (False, True):
            self.assert_told(False, starts_early, book=bare(True, pieces))
            self.assert_told(True, starts_early, book=full("grey", pieces))

    def test_books(self):
        for book in books():
            self.assertIs(starts_early(book), starts_early_by(told_by(book)))


class WaysTest(GuardCase):

    def assert_ways(self, expected, told, hands, pieces=False, made=("black", "black")):
        book = book_of(told, made, pieces)
        self.assert_told(expected, ways, book=book, hands=hands)
        self.assert_told(expected != (), is_safe, book=book, hands=hands)

    def test_each_way_for_one_hand(self):
        """What each way wants, and each of these entries left out."""
        for way, told in (
                ("child", [("make", 1), ("read", 1, 0), ("write", 1, 1, "old")]),
                ("last", [("last",), ("write", 1, 2, "new")]), ("last", [("last",), ("write", 1, 2, "again")]),
                ("old", [("make", 1), ("write", 1, 0, "old"), ("write", 1, 1, "old")]),
                ("read", [("make", 1), ("read", 1, 1)])):
            for made in ("grey", "black"):
                self.assert_ways((way,), told, 1, made=("white", made))
                for entry in told:
                    self.assert_ways((), [other for other in told if other != entry], 1, made=("white", made))

    def test_each_way_for_several_hands(self):
        closing = ("write", 0, 2, "again")
        for way, told in (
                ("child", [("make", 1), ("read", 1, 0), ("write", 0, 1, "old"), ("write", 1, 1, "old")]),
                ("last", [("last",), ("write", 1, 2, "new")]),
                ("old", [("make", 1)] + [("write", phase, colour, "old") for phase in (0, 1) for colour in (0, 1)]),
                ("read", [("make", 1), ("read", 1, 1)])):
            for hands in (2, 3, 4):
                self.assert_ways((way,), [closing, *told], hands)
                for entry in [closing, *told]:
                    self.assert_ways((), [other for other in [closing, *told] if other != entry], hands)

    def test_pieces_want_grey_cells_to_be_heeded(self):
        for first in ("new", "again"):
            for second in ("new", "again"):
                closed = [("write", 0, 1, first), ("write", 0, 2, second)]
                inserting = [("last",), ("write", 1, 1, second), ("write", 1, 2, first)]
                self.assert_ways(("last",), closed + inserting, 2, True)
                for entry in closed + inserting:
                    rest = [other for other in closed + inserting if other != entry]
                    self.assert_ways((), rest, 2, True)
                    self.assert_ways(("last",) if entry[2:3] == (1,) else (), rest, 2, False)
                self.assert_ways(("last",), inserting, 1, True)
                self.assert_ways((), inserting[:1] + inserting[2:], 1, True)
                self.assert_ways((), inserting[:2], 1, True)

    def test_one_hand_that_starts_early_wants_inserting(self):
        told = [("make", 1), ("read", 1, 1)]
        for entry in EARLY:
            for pieces in (False, True):
                self.assert_ways((), [entry, *told], 1, pieces)
                self.assert_ways(("read",), [entry, *told, *BOTH, *GREY], 1, pieces)
            self.assert_ways(("read",), [entry, *told, BOTH[0]], 1, False)
            self.assert_ways((), [entry, *told, BOTH[0]], 1, True)
        for entry in ENTRIES:
            if entry not in EARLY:
                self.assertIn("read", ways(book_of([entry, *told]), 1))

    def test_several_ways_at_once(self):
        for pieces in (False, True):
            for hands in HANDS:
                for made in ("grey", "black"):
                    self.assert_told(("child", "last", "old", "read"), ways, book=full(made, pieces), hands=hands)
        told = [("make", 1), ("read", 1, 0), ("read", 1, 1), ("write", 1, 1, "old")]
        self.assert_ways(("child", "read"), told, 1)
        self.assert_ways(("child", "old", "read"), [*told, ("write", 1, 0, "old")], 1)
        self.assert_ways(("child", "last", "read"), [*told, ("last",), BOTH[1]], 1)
        self.assert_ways(("read",), [*told, BOTH[0]], 2)

    def test_bare_ones(self):
        for last in (False, True):
            for pieces in (False, True):
                for hands in HANDS:
                    self.assert_told((), ways, book=bare(last, pieces), hands=hands)
                    self.assert_told(False, is_safe, book=bare(last, pieces), hands=hands)

    def test_books(self):
        found = {}
        for book in books():
            for hands in HANDS:
                expected = ways_of(book, hands)
                found[expected] = True
                self.assertEqual(ways(book, hands), expected, (book, hands))
                self.assertIs(is_safe(book, hands), expected != ())
        self.assertGreater(len(found), 8)

    def test_calls_in_every_way(self):
        for book in books()[::20]:
            for hands in HANDS:
                self.assert_told(ways_of(book, hands), ways, book=book, hands=hands)
                self.assert_told(ways_of(book, hands) != (), is_safe, book=book, hands=hands)
            self.assert_told(starts_early_by(told_by(book)), starts_early, book=book)


class KnownBooksTest(GuardCase):

    def test_ways_of_known_books(self):
        for maker, way in ((dijkstra, "last"), (steele, "last"), (baker, "read"), (hybrid, "old"), (yuasa, "old")):
            for pieces in (False, True):
                self.assert_told((way,), ways, book=maker(pieces), hands=1)
                for hands in (2, 3, 4):
                    expected = () if maker is yuasa else (way,)
                    self.assert_told(expected, ways, book=maker(pieces), hands=hands)

    def test_dijkstra_for_one_hand_wants_nothing_ahead_of_the_look(self):
        told = [entry for entry in told_by(dijkstra(False)) if entry != ("write", 0, 2, "new")]
        self.assert_told(True, is_safe, book=book_of(told), hands=1)
        self.assert_told(False, is_safe, book=book_of(told), hands=2)


class WhatHoldsTest(GuardCase):
    """[E4]"""

    def test_hands(self):
        for book in books():
            self.assertEqual(ways(book, 3), ways(book, 2))
            self.assertEqual(ways(book, 4), ways(book, 2))
            self.assertLessEqual(set(ways(book, 2)), set(ways(book, 1)))

    def test_more_is_never_worse(self):
        for book in books()[::3]:
            for entry in ENTRIES:
                more = with_more(book, entry)
                if is_safe(book, 2):
                    self.assertTrue(is_safe(more, 2))
                if is_safe(book, 1) and entry not in EARLY:
                    self.assertTrue(is_safe(more, 1))

    def test_what_is_never_needed(self):
        for book in books()[::3]:
            for entry in NEVER_NEEDED:
                for hands in (1, 2):
                    told = [other for other in told_by(book) if other != entry]
                    fewer = book_of(told, book[2], book[4])
                    self.assertEqual(ways(with_more(book, entry), hands), ways(book, hands))
                    self.assertEqual(ways(fewer, hands), ways(book, hands))

    def test_grey_or_black_is_made(self):
        for book in books()[::3]:
            for colour in ("grey", "black"):
                makes = tuple(made if made == "white" else colour for made in book[2])
                for hands in (1, 2):
                    self.assertEqual(ways(book[:2] + (makes,) + book[3:], hands), ways(book, hands))

    def test_a_last_look_that_is_not_needed(self):
        for book in books():
            for hands in (1, 2):
                other = [way for way in ways(book, hands) if way != "last"]
                if book[3] and other:
                    self.assertTrue(is_safe(book[:3] + (False, book[4]), hands))


class RunsTest(GuardCase):
    """MAIN of [E4], as far as random runs show it."""

    def lost_by(self, chance, book, hands):
        """What the end of a random run loses."""
        heap, rooms = chance.choice((
            (((1, None), (2,), ()), ((0, None), (0, 1), (None,), (2,))),
            (((None, None), (), (0,)), ((0, None, 1), (0, 1), (2, None), (2,))),
            (((1,), (2,), (3, None), ()), ((0, None, 2), (1, None), (0,), (None, None)))))
        first = start(heap, rooms[:hands], chance.randrange(3))
        deeds = random_run(chance, book, first, chance.choice((6, 12, 20)))
        return lost(book, finished(book, led(book, first, deeds))[1])

    def test_safe_books_lose_nothing(self):
        chance = random.Random(42)
        safe = [maker(pieces) for maker in (dijkstra, steele, baker, hybrid) for pieces in (False, True)]
        safe += [book for book in near_books(chance, 300) if ways_of(book, 2)][:60]
        alone = [book for book in near_books(chance, 300) if ways_of(book, 1) and not ways_of(book, 2)][:40]
        alone += [yuasa(False), yuasa(True)]
        for book in safe * 2:
            self.assertEqual(self.lost_by(chance, book, chance.choice(HANDS)), (), book)
        for book in alone * 2:
            self.assertEqual(self.lost_by(chance, book, 1), (), book)

    def test_such_runs_do_show_what_others_lose(self):
        chance = random.Random(43)
        found = 0
        for book in near_books(chance, 150):
            if not is_safe(book, 2):
                found += self.lost_by(chance, book, 2) != ()
        self.assertGreater(found, 3)

    def test_known_books_that_lose_some(self):
        for pieces in (False, True):
            for hands in HANDS:
                self.assertEqual(losing(yuasa(pieces), hands) is None, hands == 1)
                for last in (False, True):
                    self.assertIsNotNone(losing(bare(last, pieces), hands))
                for maker in (dijkstra, steele, baker, hybrid):
                    self.assertIsNone(losing(maker(pieces), hands))


if __name__ == "__main__":
    unittest.main()
