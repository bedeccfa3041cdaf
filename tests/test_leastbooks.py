"""[E3], and of [E4] what is said of least books."""

import itertools
import random
import unittest

from guardbooks.errors import Unfit
from guardbooks.knownbooks import baker, dijkstra, hybrid, steele, yuasa
from guardbooks.leastbooks import fewest_added, is_least, least_books, least_part, needless
from guardbooks.safety import is_safe
from tests.bookpool import ENTRIES, bare, book_of, full, pool, told_by
from tests.safetymodel import near_books, ways_by, ways_of
from tests.support import GuardCase, Quickly

HANDS = (1, 2, 3, 4)
KNOWN = [maker(pieces) for maker in (dijkstra, steele, yuasa, baker, hybrid) for pieces in (False, True)]


def books():
    return pool() + KNOWN + near_books(random.Random(51), 250)


def needless_by(book, hands):
    """The entries of book without any of which it is safe, told by entries alone."""
    told = told_by(book)
    return tuple(sorted(
        entry for entry in told if ways_by([other for other in told if other != entry], book[4], hands)))


def least_rows(hands, last, pieces):
    """The rows of entries of all least books, as [E1] tells them way by way."""
    inserting = [
        list(itertools.product(*[[("write", phase, colour, word) for word in ("again", "new")]
                                 for colour in ((1, 2) if pieces else (2,))])) for phase in (0, 1)]
    phases = (1,) if hands == 1 else (0, 1)
    if last:
        kept = [(("last",), *row) for row in inserting[1]]
    else:
        kept = [
            (("make", 1), ("read", 1, 1)),
            (("make", 1), ("read", 1, 0), *[("write", phase, 1, "old") for phase in phases]),
            (("make", 1), *[("write", phase, colour, "old") for phase in phases for colour in (0, 1)])]
    closing = [()] if hands == 1 else inserting[0]
    return [(*row, *other) for row in kept for other in closing]


class NeedlessTest(GuardCase):

    def test_unfit(self):
        for book, hands in (
                (bare(True, True), 1), (bare(False, False), 4), (yuasa(False), 2), (yuasa(True), 3),
                (book_of([("make", 1)]), 1)):
            self.assert_raised(Unfit, {}, needless, book=book, hands=hands)
            self.assert_raised(Unfit, {}, least_part, book=book, hands=hands)
            self.assert_told(False, is_least, book=book, hands=hands)

    def test_books(self):
        for book in books():
            for hands in (1, 2):
                if ways_of(book, hands):
                    self.assertEqual(needless(book, hands), needless_by(book, hands))
                    self.assertIs(is_least(book, hands), needless_by(book, hands) == ())
                else:
                    self.assertRaises(Unfit, needless, book, hands)
                    self.assertRaises(Unfit, least_part, book, hands)
                    self.assertIs(is_least(book, hands), False)

    def test_full_ones(self):
        """Of a full book each entry alone may go; for one hand, too, as it is closed by inserting."""
        for made in ("grey", "black"):
            for hands in HANDS:
                self.assert_told(tuple(sorted(ENTRIES)), needless, book=full(made, True), hands=hands)
                self.assert_told(False, is_least, book=full(made, False), hands=hands)

    def test_more_hands_need_no_more_than_two(self):
        for book in books():
            if ways_of(book, 2):
                self.assertEqual(needless(book, 3), needless(book, 2))
                self.assertEqual(needless(book, 4), needless(book, 2))

    def test_what_makes_one_hand_start_early(self):
        """Without what closes it a book that starts early is not safe for one hand; without both it is."""
        told = [("make", 0), ("make", 1), ("read", 1, 1), ("write", 0, 2, "new")]
        self.assert_told((("make", 0),), needless, book=book_of(told), hands=1)
        self.assert_told(book_of(told[1:3]), least_part, book=book_of(told), hands=1)
        self.assert_told(book_of(told[1:]), least_part, book=book_of(told), hands=2)
        grey = book_of(told, ("black", "grey"))
        self.assert_told(book_of(told[1:], ("white", "grey")), least_part, book=grey, hands=3)

    def test_calls_in_every_way(self):
        for book in KNOWN:
            for hands in HANDS:
                if ways_of(book, hands):
                    self.assert_told(needless_by(book, hands), needless, book=book, hands=hands)
                    self.value_of(least_part, book=book, hands=hands)
                self.assert_told(
                    bool(ways_of(book, hands)) and not needless_by(book, hands), is_least, book=book, hands=hands)


class LeastPartTest(GuardCase):

    def test_books(self):
        for book in books()[::3]:
            for hands in (1, 2, 4):
                if ways_of(book, hands):
                    part = least_part(book, hands)
                    told = told_by(part)
                    self.assertTrue(ways_of(part, hands))
                    self.assertEqual(needless_by(part, hands), ())
                    self.assertLessEqual(set(told), set(told_by(book)))
                    self.assertEqual(part, book_of(told, book[2], book[4]))

    def test_least_ones_are_left_as_they_are(self):
        for hands, last, pieces in itertools.product(HANDS, (False, True), (False, True)):
            for book in least_books(hands, last, pieces):
                self.assert_told(book, least_part, book=book, hands=hands)

    def test_known_ones(self):
        closed = [("write", 0, 2, "new")]
        olds = [("write", phase, colour, "old") for phase in (0, 1) for colour in (0, 1)]
        for book, hands, told in (
                (hybrid(False), 2, [("make", 1), *olds, *closed]), (hybrid(False), 1, [("make", 1), *olds[2:]]),
                (yuasa(False), 1, [("make", 1), *olds[2:]]), (baker(False), 3, [("make", 1), ("read", 1, 1), *closed]),
                (dijkstra(False), 1, [("last",), ("write", 1, 2, "new")]),
                (steele(False), 2, [("last",), ("write", 0, 2, "again"), ("write", 1, 2, "again")])):
            self.assert_told(book_of(told), least_part, book=book, hands=hands)


class LeastBooksTest(GuardCase):

    def test_all_of_them(self):
        for hands, last, pieces in itertools.product(HANDS, (False, True), (False, True)):
            rows = least_rows(hands, last, pieces)
            expected = tuple(sorted(book_of(row, pieces=pieces) for row in rows))
            self.assert_told(expected, least_books, hands=hands, last=last, pieces=pieces)
            many = {(True, False): 3, (True, True): 4 if pieces else 2, (False, False): 12 if pieces else 6,
                    (False, True): 16 if pieces else 4}[hands == 1, last]
            self.assertEqual(len(expected), many)
            self.assertEqual(len(set(expected)), many)

    def test_they_are_least(self):
        for hands, last, pieces in itertools.product((1, 2), (False, True), (False, True)):
            for book in least_books(hands, last, pieces):
                self.assert_told(True, is_least, book=book, hands=hands)
                self.assertEqual(book[3:], (last, pieces))
                told = told_by(book)
                for entry in told:
                    fewer = book_of([other for other in told if other != entry], pieces=pieces)
                    self.assertFalse(is_safe(fewer, hands))
                    self.assertFalse(is_least(fewer, hands))
                for entry in ENTRIES:
                    if entry not in told:
                        self.assertFalse(is_least(book_of([*told, entry], pieces=pieces), hands), entry)
                grey = tuple("grey" if colour == "black" else colour for colour in book[2])
                self.assertTrue(is_least(book[:2] + (grey,) + book[3:], hands))

    def test_there_are_no_others(self):
        """Books from which entries are left out in any order come to one of them, and each of them comes."""
        chance = random.Random(52)
        found = {}
        for hands, pieces in itertools.product((1, 2), (False, True)):
            listed = {book for last in (False, True) for book in least_books(hands, last, pieces)}
            for _ in range(250):
                told = list(ENTRIES)
                order = list(ENTRIES)
                chance.shuffle(order)
                left = True
                while left:
                    left = False
                    for entry in order:
                        rest = [other for other in told if other != entry]
                        if entry in told and ways_by(rest, pieces, hands):
                            told, left = rest, True
                book = book_of(told, pieces=pieces)
                self.assertIn(book, listed)
                found[hands, book] = True
        self.assertGreater(len(found), 40)

    def test_those_for_more_hands_are_those_for_two(self):
        for last, pieces in itertools.product((False, True), repeat=2):
            for hands in (3, 4):
                self.assertEqual(least_books(hands, last, pieces), least_books(2, last, pieces))


class FewestAddedTest(GuardCase):

    def assert_fewest(self, book, hands):
        added = fewest_added(book, hands)
        told = told_by(book)
        self.assertIs(type(added), tuple)
        self.assertEqual(list(added), sorted(set(added)))
        self.assertFalse(set(added) & set(told))
        self.assertTrue(ways_by([*told, *added], book[4], hands), (book, hands, added))
        return added

    def test_books(self):
        for book in books():
            for hands in HANDS:
                added = self.assert_fewest(book, hands)
                self.assertEqual(added == (), ways_of(book, hands) != ())

    def test_no_fewer_will_do(self):
        """All fewer entries of those left are tried."""
        chance = random.Random(53)
        some = [*pool()[:8], *KNOWN, *chance.sample(pool(), 12), *near_books(chance, 40)]
        for book in some:
            told = told_by(book)
            left = [entry for entry in ENTRIES if entry not in told]
            for hands in (1, 2):
                many = len(self.assert_fewest(book, hands))
                for row in itertools.combinations(left, min(many - 1, 2) if many else 0):
                    self.assertTrue(many == 0 or not ways_by([*told, *row], book[4], hands), (book, hands, row))

    def test_no_fewer_will_do_for_bare_ones(self):
        for pieces, hands, many in ((False, 1, 2), (True, 1, 2), (False, 2, 3), (True, 2, 4), (True, 4, 4)):
            for last in (False, True):
                fewer = many
                if last:
                    fewer = {(False, 1): 1, (True, 1): 2, (False, 2): 2, (True, 2): 4, (True, 4): 4}[pieces, hands]
                self.assertEqual(len(self.value_of(fewest_added, book=bare(last, pieces), hands=hands)), fewer)
                told = told_by(bare(last, pieces))
                for row in itertools.combinations(ENTRIES, fewer - 1):
                    self.assertFalse(ways_by([*told, *row], pieces, hands))

    def test_one_hand_that_starts_early(self):
        """What makes it start early stays, so inserting is wanted as well."""
        for entry in (("make", 0), ("read", 0, 0), ("write", 0, 0, "new"), ("write", 0, 0, "old")):
            for pieces in (False, True):
                book = book_of([entry, ("make", 1), ("read", 1, 1)], pieces=pieces)
                added = self.assert_fewest(book, 1)
                self.assertEqual(len(added), 2 if pieces else 1)
                self.assertEqual([row[:2] for row in added], [("write", 0)] * len(added))

    def test_what_is_wanting_of_known_ones(self):
        for book, hands, many in (
                (yuasa(False), 1, 0), (yuasa(False), 2, 2), (yuasa(True), 2, 3), (hybrid(True), 4, 0),
                (dijkstra(True), 3, 0)):
            self.assertEqual(len(self.value_of(fewest_added, book=book, hands=hands)), many)
        unlasting = book_of([("write", phase, 2, "again") for phase in (0, 1)])
        self.assert_told((("last",),), fewest_added, book=unlasting, hands=2)

    def test_calls_in_every_way(self):
        for book in books()[::15]:
            for hands in HANDS:
                self.value_of(fewest_added, book=book, hands=hands)

    def test_quickly(self):
        with Quickly(10):
            for _ in range(5):
                for hands in HANDS:
                    least_books(hands, True, True)
                    fewest_added(bare(False, True), hands)
                    least_part(full("black", True), hands)


if __name__ == "__main__":
    unittest.main()
