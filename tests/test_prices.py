"""[J1] to [J5]: what books cost, and which safe ones cost least."""

import itertools
import random
import unittest

from guardbooks.books import book_error
from guardbooks.errors import Unfit
from guardbooks.knownbooks import baker, dijkstra, hybrid, steele, yuasa
from guardbooks.leastbooks import is_least, least_part
from guardbooks.prices import cheapest, cheapest_error, prices_error, total
from guardbooks.safety import is_safe
from tests.bookpool import ENTRIES, bare, book_of, full, pool, random_books, told_by
from tests.eldermodel import least_books_before
from tests.safetymodel import near_books, ways_by, ways_of
from tests.support import BOOK, GuardCase, ODD_VALUES, Quickly

HANDS = (1, 2, 3, 4)
MOST = 10 ** 6
KNOWN = [maker(pieces) for maker in (dijkstra, steele, yuasa, baker, hybrid) for pieces in (False, True)]
ALL = tuple((entry, 1) for entry in sorted(ENTRIES))
SHOP = ((("last",), 4), (("make", 1), 1), (("read", 1, 1), 2), (("write", 1, 2, "new"), 3))
LEAST = {
    (hands, pieces): least_books_before(hands, False, pieces) + least_books_before(hands, True, pieces)
    for hands in (1, 2) for pieces in (False, True)}


def price_of(book, prices):
    """The price, None if there is none."""
    told = dict(prices)
    if [entry for entry in told_by(book) if entry not in told]:
        return None
    return sum(told[entry] for entry in told_by(book))


def least_price(prices, hands, pieces):
    """Over all least books; None if none has a price."""
    found = [price_of(book, prices) for book in LEAST[min(hands, 2), pieces]]
    return min((price for price in found if price is not None), default=None)


def least_price_of_all(prices, hands, pieces):
    """Over all books of these entries, safe or not: for few entries."""
    found = [
        sum(price for _, price in row) for many in range(len(prices) + 1)
        for row in itertools.combinations(prices, many) if ways_by([entry for entry, _ in row], pieces, hands)]
    return min(found, default=None)


def judged(prices, hands, pieces, value):
    """What [J4] tells of value."""
    least = least_price(prices, hands, pieces)
    if value is None:
        return None if least is None else "none"
    if book_error(value) is not None:
        return ("book", book_error(value))
    if value[4] is not pieces:
        return "pieces"
    dear = [entry for entry in sorted(told_by(value)) if entry not in dict(prices)]
    if dear:
        return ("price", dear[0])
    if not ways_of(value, hands):
        return "safe"
    return None if price_of(value, prices) == least else "dear"


def drawn_prices(seed, many):
    """Rows of prices of few entries, of most, and of all; with noughts, equal ones and greatest ones among them."""
    chance = random.Random(seed)
    rows = [(), ALL, SHOP, tuple((entry, 0) for entry, _ in ALL), tuple((entry, MOST) for entry, _ in ALL)]
    while len(rows) < many:
        part = chance.choice((0.3, 0.6, 0.9, 1))
        choices = chance.choice(((0, 1), (1, 2, 3), (5,), range(100), (0, MOST), range(MOST + 1)))
        rows.append(tuple((entry, chance.choice(choices)) for entry, _ in ALL if chance.random() < part))
    return rows


class PricesErrorTest(GuardCase):

    def test_right_ones(self):
        for prices in drawn_prices(121, 30):
            self.assert_told(None, prices_error, value=prices)
        for entry in ENTRIES:
            for price in (0, 1, MOST):
                self.assert_told(None, prices_error, value=((entry, price),))

    def test_form(self):
        for value in (list(SHOP), dict(SHOP), None, "last", 4, [], {}):
            self.assert_told("form", prices_error, value=value)

    def test_wrong_entries(self):
        wrong = (
            None, ("last",), ("last", 4), (("last",),), (("last",), 4, 4), [("last",), 4], (4, ("last",)), (("last",), -1),
            (("last",), MOST + 1), (("last",), True), (("last",), None), (("last",), "4"), (["last"], 4), (("make", True), 4),
            (("make", 2), 4), (("read", 1), 4), (("write", 1, 3, "new"), 2), (("write", 1, 2), 2), (("pieces",), 1),
            (("last",), 10 ** 399), (("last",), (4,)), ((("last",),), 4), (BOOK, 4), (None, 4), (("last", 0), 4))
        for item in wrong:
            self.assert_told(("entry", 0), prices_error, value=(item,))
            self.assert_told(("entry", 4), prices_error, value=SHOP + (item, None))
            self.assert_told(("entry", 1), prices_error, value=(SHOP[1], item, SHOP[0]))

    def test_odd_values(self):
        for value in ODD_VALUES:
            expected = "form" if type(value) is not tuple else ("entry", 0) if value else None
            self.assert_told(expected, prices_error, value=value)
            self.assert_told(("entry", 1), prices_error, value=(SHOP[3], value, SHOP[0]))
            right = type(value) is int and 0 <= value <= MOST
            self.assert_told(None if right else ("entry", 0), prices_error, value=((("last",), value),))

    def test_order(self):
        for at in range(1, 4):
            self.assert_told(("order", at), prices_error, value=SHOP[:at] + SHOP[at - 1:])
            self.assert_told(("order", 4), prices_error, value=SHOP + SHOP[at:])
            self.assert_told(("order", at), prices_error, value=SHOP[:at] + SHOP[:1] + SHOP[at:])
        self.assert_told(("order", 1), prices_error, value=ALL[::-1])
        self.assert_told(("order", 27), prices_error, value=ALL + ALL[26:])
        self.assert_told(("order", 1), prices_error, value=((("last",), 5), (("last",), 4)))

    def test_what_is_wrong_comes_ahead_of_the_order(self):
        self.assert_told(("entry", 3), prices_error, value=(SHOP[1], SHOP[0], SHOP[0], None))
        self.assert_told(("entry", 27), prices_error, value=ALL[::-1] + (7,))


class TotalTest(GuardCase):

    def test_drawn_ones(self):
        books = pool() + KNOWN + near_books(random.Random(122), 60)
        for prices in drawn_prices(123, 12):
            for book in books[::2]:
                expected = price_of(book, prices)
                if expected is None:
                    self.assert_raised(Unfit, {}, total, book=book, prices=prices)
                else:
                    self.assert_told(expected, total, book=book, prices=prices)

    def test_grey_and_black_cost_the_same(self):
        prices = tuple((entry, 10 ** at) for at, (entry, _) in enumerate(ALL[:6])) + ALL[6:]
        for made, price in ((("grey", "white"), 10), (("black", "grey"), 110), (("white", "black"), 100)):
            self.assert_told(price, total, book=bare(False, False)[:2] + (made, False, True), prices=prices)

    def test_none_and_all(self):
        self.assert_told(0, total, book=bare(False, True), prices=())
        self.assert_told(27, total, book=full("grey", True), prices=ALL)
        self.assert_told(27 * MOST, total, book=full("black", False), prices=tuple((entry, MOST) for entry, _ in ALL))
        self.assert_raised(Unfit, {}, total, book=bare(True, False), prices=())
        self.assert_raised(Unfit, {}, total, book=full("grey", True), prices=ALL[1:])


class CheapestTest(GuardCase):

    def assert_cheapest(self, prices, hands, pieces):
        found = cheapest(prices, hands, pieces)
        expected = least_price(prices, hands, pieces)
        if expected is None:
            self.assertIsNone(found)
        else:
            self.assertIsNone(book_error(found))
            self.assertIs(found[4], pieces)
            self.assertNotEqual(ways_of(found, hands), ())
            self.assertEqual(price_of(found, prices), expected)
        self.assertIsNone(cheapest_error(prices, hands, pieces, found))
        return found

    def test_drawn_ones(self):
        told = {}
        for prices in drawn_prices(124, 250):
            for hands in HANDS:
                for pieces in (False, True):
                    told[self.assert_cheapest(prices, hands, pieces) is None] = True
        self.assertEqual(len(told), 2)

    def test_no_other_book_of_few_entries_costs_less(self):
        chance = random.Random(125)
        useful = [entry for entry in sorted(ENTRIES) if entry not in (("read", 0, 1), ("read", 0, 2), ("write", 0, 0, "again"))]
        told = {}
        for _ in range(60):
            prices = tuple((entry, chance.randrange(6)) for entry in sorted(chance.sample(useful, 7)))
            for hands, pieces in itertools.product((1, 2), (False, True)):
                found = self.assert_cheapest(prices, hands, pieces)
                expected = least_price_of_all(prices, hands, pieces)
                told[expected is None] = True
                self.assertEqual(None if found is None else price_of(found, prices), expected)
        self.assertEqual(len(told), 2)

    def test_smallest_books(self):
        for hands in HANDS:
            for pieces in (False, True):
                found = self.assert_cheapest(ALL, hands, pieces)
                many = 2 if hands == 1 else 4 if pieces else 3
                self.assertEqual(len(told_by(found)), many)
                self.assert_told(many, total, book=found, prices=ALL)

    def test_no_entries(self):
        for hands in HANDS:
            for pieces in (False, True):
                self.assert_told(None, cheapest, prices=(), hands=hands, pieces=pieces)

    def test_one_way_alone_can_be_had(self):
        for rows in (
                [("last",), ("write", 0, 2, "new"), ("write", 1, 2, "again")],
                [("make", 1), ("read", 1, 1), ("write", 0, 2, "again")],
                [("make", 1), ("read", 1, 0), ("write", 0, 1, "old"), ("write", 0, 2, "new"), ("write", 1, 1, "old")],
                [("make", 1), ("write", 0, 2, "new")] + [("write", phase, colour, "old") for phase in (0, 1) for colour in (0, 1)]):
            prices = tuple((entry, 7) for entry in sorted(rows))
            found = self.assert_cheapest(prices, 2, False)
            self.assertEqual(set(told_by(found)), set(rows))
            self.assertIsNone(self.assert_cheapest(prices, 2, True))
            for at in range(len(prices)):
                self.assertIsNone(self.assert_cheapest(prices[:at] + prices[at + 1:], 2, False))

    def test_of_two_words_the_cheaper_one(self):
        for new, again in ((1, 2), (2, 1), (0, MOST), (MOST, 0)):
            prices = tuple(sorted([
                (("last",), 1), (("write", 0, 2, "new"), new), (("write", 0, 2, "again"), again),
                (("write", 1, 2, "new"), again), (("write", 1, 2, "again"), new)]))
            found = self.assert_cheapest(prices, 3, False)
            self.assertEqual(price_of(found, prices), 1 + 2 * min(new, again))

    def test_calls_in_every_way(self):
        for prices in drawn_prices(126, 12):
            for hands in HANDS:
                for pieces in (False, True):
                    found = self.value_of(cheapest, prices=prices, hands=hands, pieces=pieces)
                    self.assert_told(None, cheapest_error, prices=prices, hands=hands, pieces=pieces, value=found)

    def test_quickly(self):
        with Quickly(5):
            for _ in range(100):
                for hands in HANDS:
                    cheapest_error(ALL, hands, True, cheapest(ALL, hands, True))


class CheapestErrorTest(GuardCase):

    def test_odd_values(self):
        for value in ODD_VALUES:
            self.assert_told(
                judged(SHOP, 1, False, value), cheapest_error, prices=SHOP, hands=1, pieces=False, value=value)
            expected = None if value is None else judged((), 2, True, value)
            self.assert_told(expected, cheapest_error, prices=(), hands=2, pieces=True, value=value)

    def test_none(self):
        self.assert_told("none", cheapest_error, prices=SHOP, hands=1, pieces=False, value=None)
        self.assert_told(None, cheapest_error, prices=SHOP, hands=2, pieces=False, value=None)
        self.assert_told(None, cheapest_error, prices=(), hands=1, pieces=True, value=None)

    def test_books(self):
        told = {}
        books = pool() + KNOWN + near_books(random.Random(127), 80) + random_books(20)
        for prices in drawn_prices(128, 15):
            for hands in (1, 2):
                for pieces in (False, True):
                    found = cheapest(prices, hands, pieces)
                    for value in [*books[::5], found]:
                        expected = judged(prices, hands, pieces, value)
                        told[expected if type(expected) is not tuple else expected[0]] = True
                        self.assertEqual(cheapest_error(prices, hands, pieces, value), expected)
        self.assertEqual(set(told), {None, "pieces", "price", "safe", "dear"})

    def test_grey_will_do(self):
        """What differs in price alone counts, and not how the book came to be."""
        black = book_of([("make", 1), ("read", 1, 1)])
        for value in (black, black[:2] + (("white", "grey"),) + black[3:]):
            self.assert_told(None, cheapest_error, prices=SHOP, hands=1, pieces=False, value=value)
        free = SHOP + ((("write", 1, 2, "old"), 0),)
        with_more = book_of([("make", 1), ("read", 1, 1), ("write", 1, 2, "old")])
        self.assert_told(None, cheapest_error, prices=free, hands=1, pieces=False, value=with_more)
        costly = SHOP + ((("write", 1, 2, "old"), 1),)
        self.assert_told("dear", cheapest_error, prices=costly, hands=1, pieces=False, value=with_more)

    def test_which_fault_comes_first(self):
        """Each fault together with each later one."""
        for value, expected in (
                (bare(False, False)[:4] + (None,), ("book", "pieces")), (bare(False, True), "pieces"), (full("grey", True), "pieces"),
                (book_of([("make", 0), ("write", 0, 0, "old")]), ("price", ("make", 0))),
                (book_of([("last",), ("make", 1), ("write", 0, 0, "old"), ("read", 0, 1)]), ("price", ("read", 0, 1))),
                (book_of([("last",), ("make", 1)]), "safe"), (book_of([("last",), ("make", 1), ("read", 1, 1)]), "dear")):
            self.assert_told(expected, cheapest_error, prices=SHOP, hands=1, pieces=False, value=value)


class WhatHoldsTest(GuardCase):
    """[J5]"""

    def price(self, prices, hands, pieces):
        found = cheapest(prices, hands, pieces)
        return None if found is None else total(found, prices)

    def assert_not_less(self, one, other):
        """There may be no book any more."""
        self.assertTrue(other is None or one is not None and one <= other, (one, other))

    def test_a_least_part_costs_as_much(self):
        for prices in drawn_prices(129, 60):
            for hands in (1, 2):
                found = cheapest(prices, hands, False)
                if found is not None:
                    part = least_part(found, hands)
                    self.assertTrue(is_least(part, hands))
                    self.assertEqual(total(part, prices), total(found, prices))
                    self.assertIsNone(cheapest_error(prices, hands, False, part))

    def test_more_hands_and_pieces(self):
        for prices in drawn_prices(130, 120):
            for pieces in (False, True):
                self.assert_not_less(self.price(prices, 1, pieces), self.price(prices, 2, pieces))
                self.assertEqual(self.price(prices, 2, pieces), self.price(prices, 3, pieces))
                self.assertEqual(self.price(prices, 2, pieces), self.price(prices, 4, pieces))
            for hands in HANDS:
                self.assert_not_less(self.price(prices, hands, False), self.price(prices, hands, True))

    def test_further_entries_and_other_prices(self):
        chance = random.Random(131)
        for prices in drawn_prices(132, 120):
            told = dict(prices)
            further = {entry: chance.randrange(10) for entry in ENTRIES if entry not in told and chance.random() < 0.5}
            more = tuple(sorted({**further, **told}.items()))
            dearer = tuple((entry, min(MOST, price + chance.randrange(5))) for entry, price in prices)
            for hands, pieces in itertools.product((1, 2), (False, True)):
                price = self.price(prices, hands, pieces)
                self.assert_not_less(self.price(more, hands, pieces), price)
                self.assert_not_less(price, self.price(dearer, hands, pieces))
                for times in (1, 2, 7):
                    multiplied = tuple((entry, price_of_it * times) for entry, price_of_it in prices)
                    if prices_error(multiplied) is None:
                        self.assertEqual(
                            self.price(multiplied, hands, pieces), None if price is None else price * times)

    def test_if_all_entries_are_told_there_is_a_safe_book(self):
        for prices in drawn_prices(133, 80):
            if len(prices) == 27:
                for hands, pieces in itertools.product(HANDS, (False, True)):
                    self.assertTrue(is_safe(cheapest(prices, hands, pieces), hands))


if __name__ == "__main__":
    unittest.main()
