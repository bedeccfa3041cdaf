"""The answers of guardbooks.safety and guardbooks.leastbooks are those that were given ahead of their being faster."""

import hashlib
import itertools
import random
import time
import unittest

from guardbooks.errors import Unfit
from guardbooks.knownbooks import baker, dijkstra, hybrid, steele, yuasa
from guardbooks.leastbooks import fewest_added, is_least, least_books, least_part, needless
from guardbooks.losing import losing
from guardbooks.losingjudge import losing_error
from guardbooks.safety import inserting, is_closed, is_safe, lacking, starts_early, wants, ways
from tests.bookpool import ENTRIES, bare, book_of, full, random_books, told_by
from tests.eldermodel import (
    fewest_added_before, is_least_before, least_books_before, least_part_before, needless_before)
from tests.safetymodel import near_books, starts_early_by, ways_of
from tests.support import GuardCase

HANDS = (1, 2, 3, 4)
KINDS = list(itertools.product(HANDS, (False, True), (False, True)))
KNOWN = [maker(pieces) for maker in (dijkstra, steele, yuasa, baker, hybrid) for pieces in (False, True)]
PLAIN = [bare(last, pieces) for last in (False, True) for pieces in (False, True)]
FULL = [full(made, pieces) for made in ("grey", "black") for pieces in (False, True)]


def turned_books():
    """Known, bare and full books, each with one entry put in or left out, too."""
    books = []
    for book in KNOWN + PLAIN + FULL:
        told = told_by(book)
        made = tuple("black" if colour == "white" else colour for colour in book[2])
        books.append(book)
        for entry in ENTRIES:
            other = [one for one in told if one != entry] if entry in told else told + [entry]
            books.append(book_of(other, made, book[4]))
    return books


def drawn_books():
    """Random books: some of few entries, some near safe ones, some that lack but few entries."""
    chance = random.Random(71)
    books = random_books(80) + near_books(chance, 200)
    for _ in range(80):
        told = [entry for entry in ENTRIES if chance.random() < chance.choice((0.6, 0.9, 0.97))]
        books.append(book_of(told, ("grey", "black"), chance.random() < 0.5))
    return books


def answers(book, hands):
    """All that is told of a book for so many hands; None where Unfit is raised."""
    told = [is_safe(book, hands), ways(book, hands), is_least(book, hands), fewest_added(book, hands)]
    for function in (needless, least_part):
        try:
            told.append(function(book, hands))
        except Unfit:
            told.append(None)
    return tuple(told)


def answers_before(book, hands):
    return (
        ways_of(book, hands) != (), ways_of(book, hands), is_least_before(book, hands),
        fewest_added_before(book, hands), needless_before(book, hands), least_part_before(book, hands))


class AnswersBeforeTest(GuardCase):

    def assert_as_before(self, book, hands):
        self.assertEqual(repr(answers(book, hands)), repr(answers_before(book, hands)), (book, hands))

    def test_as_they_were_written_down(self):
        """A sum over all answers, told by the program as it was ahead of the change."""
        sums = hashlib.sha256()
        for book in turned_books():
            for hands in HANDS:
                sums.update(repr(answers(book, hands)).encode())
        for hands, last, pieces in KINDS:
            sums.update(repr(least_books(hands, last, pieces)).encode())
        self.assertEqual(sums.hexdigest(), "490160f769f060b17c1d5ad06e0c0c48518972be96c5d55c3d378f34756db196")

    def test_known_bare_and_full_ones(self):
        for book in KNOWN + PLAIN + FULL:
            for hands in HANDS:
                self.assert_as_before(book, hands)

    def test_with_an_entry_put_in_or_left_out(self):
        for book in turned_books()[::3]:
            for hands in (1, 2):
                self.assert_as_before(book, hands)

    def test_drawn_ones(self):
        for book in drawn_books():
            for hands in (1, 3):
                self.assert_as_before(book, hands)
            self.assertEqual(repr(answers(book, 2)), repr(answers(book, 3)))
            self.assertEqual(repr(answers(book, 4)), repr(answers(book, 3)))
            self.assertIs(starts_early(book), starts_early_by(told_by(book)))

    def test_books_for_one_hand_that_start_early(self):
        """What closes such a book is needed until all that starts early is left out: that comes first."""
        early = [("make", 0), ("read", 0, 0), ("write", 0, 0, "new"), ("write", 0, 0, "old")]
        closing = [("write", 0, colour, word) for colour in (1, 2) for word in ("again", "new")]
        ends = ([("make", 1), ("read", 1, 1)], [("last",), ("write", 1, 1, "new"), ("write", 1, 2, "again")])
        for many, pieces in itertools.product(range(16), (False, True)):
            told = [entry for at, entry in enumerate(early) if many >> at & 1]
            for end in ends:
                for kept in itertools.product((False, True), repeat=4):
                    rest = [entry for entry, there in zip(closing, kept) if there]
                    self.assert_as_before(book_of(told + rest + end, pieces=pieces), 1)

    def test_all_least_books(self):
        for hands, last, pieces in KINDS:
            expected = least_books_before(hands, last, pieces)
            self.assert_told(expected, least_books, hands=hands, last=last, pieces=pieces)

    def test_calls_in_every_way(self):
        for book in KNOWN + FULL[:1] + PLAIN[:2] + drawn_books()[::20]:
            for hands in HANDS:
                before = answers_before(book, hands)
                for function, told in zip((is_safe, ways, is_least, fewest_added, needless, least_part), before):
                    if told is None:
                        self.assert_raised(Unfit, {}, function, book=book, hands=hands)
                    else:
                        self.assert_told(told, function, book=book, hands=hands)

    def test_ways_are_told_alike_in_both_forms(self):
        """As rows of entries, for those who look for books, too."""
        for book in drawn_books():
            for hands in HANDS:
                rows = [way for way in ("child", "last", "old", "read") if not lacking(book, wants(way, hands, book[4]))]
                self.assertEqual(is_closed(book, hands), not lacking(book, inserting(0, book[4])) or (
                    hands == 1 and not starts_early(book)))
                self.assertEqual(ways(book, hands), tuple(rows) if is_closed(book, hands) else ())


class QuicklyTest(GuardCase):
    """Rows of calls such as those that took too long, each in a third of the time that it took at the most."""

    def assert_quick(self, row, seconds):
        """The quickest of some tries counts, as other programs may run beside this one."""
        taken = []
        for _ in range(12):
            begun = time.perf_counter()
            row()
            taken.append(time.perf_counter() - begun)
        self.assertLess(min(taken), seconds / 3)

    def test_is_safe(self):
        books = KNOWN + near_books(random.Random(72), 115)
        self.assert_quick(lambda: [is_safe(book, hands) for book in books for hands in HANDS], 0.022)

    def test_least_books(self):
        def row():
            for hands, last, pieces in KINDS[4:12] + [(4, True, True), (4, False, True)]:
                for book in least_books(hands, last, pieces)[:3]:
                    is_least(book, hands)
        self.assert_quick(row, 0.041)

    def test_least_part(self):
        books = [book for book in FULL + drawn_books()[-40:] if is_safe(book, 2)][:6]
        self.assertEqual(len(books), 6)
        self.assert_quick(lambda: [is_least(least_part(book, 2), 2) for book in books], 0.023)

    def test_all_calls(self):
        books = near_books(random.Random(73), 2)

        def row():
            for book in books:
                for hands in (1, 2):
                    for _ in range(3):
                        answers(book, hands)
                        least_books(hands, book[3], book[4])
                        losing_error(book, hands, losing(book, hands))
        self.assert_quick(row, 0.044)


if __name__ == "__main__":
    unittest.main()
