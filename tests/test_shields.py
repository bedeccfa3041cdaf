"""[G1] to [G5]: what is at risk, chains, and invariants."""

import random
import unittest

from guardbooks.ending import is_over, lost
from guardbooks.knownbooks import baker, dijkstra, hybrid, steele, yuasa
from guardbooks.moving import after
from guardbooks.safety import ways
from guardbooks.shields import broken, chain, chain_error, held_white, invariant, seen_white
from guardbooks.standings import start
from tests import shieldmodel
from tests.bookpool import bare
from tests.deedmodel import done_deeds, random_run
from tests.safetymodel import near_books
from tests.standingpool import FULL_HANDS, NAMED, ROW, WIDE, chain as row_of_cells, ended, random_standings, ring, small_standings
from tests.support import GuardCase, ODD_VALUES, Quickly

WAYS = ("child", "last", "old", "read")
LONG = (
    row_of_cells(40), (0,) + ("white",) * 39, ((None, 39), (20, 5)), (True, False))
HALF = (
    ((1, 2, 3), (1, 4), (None, 5), (), (4, 4), (1,), (6,)), (1, "white", "black", "white", "white", "white", "white"),
    ((3, None), (6, 1)), (True, False))


def standings():
    rows = [*NAMED, LONG, HALF, *random_standings(), *list(small_standings())[::40]]
    rows += [(heap, marks, hands, tuple(not item for item in looked)) for heap, marks, hands, looked in rows[::3]]
    return rows + [ended(standing) for standing in rows[::5]]


def marked_in_many_ways():
    """Small heaps with each row of marks."""
    chance = random.Random(81)
    for heap in (((1, 2), (2, None), ()), ((0, 1), (2, 0), (1, 2)), ((None, 1, 2), (2,), (0,))):
        marks = [["white", "black", *range(len(fields))] for fields in heap]
        for first in marks[0]:
            for second in marks[1]:
                for third in marks[2]:
                    rooms = (chance.choice((None, 0, 1, 2)), chance.choice((None, 0, 1, 2)))
                    yield (heap, (first, second, third), (rooms, (2,)), (chance.random() < 0.7, False))


class AtRiskTest(GuardCase):

    def assert_at_risk(self, standing, seen, held):
        self.assert_told(seen, seen_white, standing=standing)
        self.assert_told(held, held_white, standing=standing)

    def test_by_hand(self):
        self.assert_at_risk(HALF, (1, 5), (3,))
        self.assert_at_risk(HALF[:3] + ((True, True),), (1, 5), (1, 3, 6))
        self.assert_at_risk(HALF[:3] + ((False, False),), (1, 5), ())
        self.assert_at_risk(HALF[:1] + ((2,) + HALF[1][1:],) + HALF[2:], (1, 5), (3,))
        self.assert_at_risk(HALF[:1] + ((0,) + HALF[1][1:],) + HALF[2:], (5,), (3,))
        self.assert_at_risk(HALF[:1] + (("black",) + HALF[1][1:],) + HALF[2:], (1, 3, 5), (3,))

    def test_cells_that_name_themselves_and_one_another(self):
        heap = ((0, 1), (0, 1), (2,))
        for marks, seen in (
                ((0, "white", "white"), ()), ((1, "white", "white"), ()), (("black", "white", "white"), (1,)),
                (("white", "black", "white"), (0,)), (("white", 1, "white"), (0,)), (("white",) * 3, ())):
            self.assert_at_risk((heap, marks, ((2, 2),), (False,)), seen, ())
            self.assert_at_risk((heap, marks, ((2, 2),), (True,)), seen, (2,))

    def test_a_cell_that_is_told_more_than_once_is_told_once(self):
        standing = (((2, 2, 2), (2,), ()), ("black", "black", "white"), ((2, 2), (None, 2)), (True, True))
        self.assert_at_risk(standing, (2,), (2,))

    def test_nothing_there(self):
        self.assert_at_risk(((), (), ((None,),), (True,)), (), ())
        self.assert_at_risk(start(((), ()), ((0, 1),), 2), (), ())

    def test_of_all_kinds(self):
        for standing in [*standings(), *marked_in_many_ways()]:
            self.assertEqual(seen_white(standing), tuple(sorted(shieldmodel.seen(standing))))
            self.assertEqual(held_white(standing), tuple(sorted(shieldmodel.held(standing))))

    def test_calls_in_every_way(self):
        for standing in standings()[::9]:
            self.assert_at_risk(
                standing, tuple(sorted(shieldmodel.seen(standing))), tuple(sorted(shieldmodel.held(standing))))


class ChainTest(GuardCase):

    def assert_chains(self, standing):
        long = shieldmodel.lengths(standing)
        for cell in range(len(standing[0])):
            found = chain(standing, cell)
            if cell not in long:
                self.assertIsNone(found)
            else:
                self.assertIs(type(found), tuple)
                self.assertEqual(len(found), long[cell])
                self.assertIsNone(shieldmodel.fault(standing, cell, found))
                self.assertIsNone(chain_error(standing, cell, found))
                self.assertEqual(len(set(found)), len(found))

    def test_by_hand(self):
        self.assert_told((0, 3), chain, standing=HALF, cell=3)
        for cell in (0, 1, 2, 4, 5, 6):
            self.assert_told(None, chain, standing=HALF, cell=cell)
        earlier = HALF[:1] + ((0,) + HALF[1][1:],) + HALF[2:]
        self.assert_told((0, 1), chain, standing=earlier, cell=1)
        self.assert_told((0, 1, 4), chain, standing=earlier, cell=4)

    def test_over_a_long_row_of_white_cells(self):
        self.assert_told(tuple(range(40)), chain, standing=LONG, cell=39)
        self.assert_told((0, 1), chain, standing=LONG, cell=1)
        self.assert_told(None, chain, standing=LONG, cell=0)
        cut = LONG[:1] + ((0,) + ("white",) * 19 + ("black",) + ("white",) * 19,) + LONG[2:]
        self.assert_told(tuple(range(20)), chain, standing=cut, cell=19)
        self.assert_told(None, chain, standing=cut, cell=21)
        round_one = (ring(40), (0,) + ("white",) * 39, ((None,),), (True,))
        self.assert_told(tuple(range(40)), chain, standing=round_one, cell=39)

    def test_the_shortest_of_several(self):
        heap = ((1, 4), (2,), (3,), (), (3,))
        self.assert_told((0, 4, 3), chain, standing=(heap, (0,) + ("white",) * 4, ((None,),), (True,)), cell=3)
        self.assert_told((4, 3), chain, standing=(heap, (0,) + ("white",) * 3 + (0,), ((None,),), (True,)), cell=3)
        self.assert_told((0, 1, 2, 3), chain, standing=(heap, (0,) + ("white",) * 3 + ("black",), ((None,),), (True,)), cell=3)

    def test_of_all_kinds(self):
        for standing in [*standings(), *marked_in_many_ways()]:
            self.assert_chains(standing)

    def test_none_where_nothing_is_grey(self):
        for standing in standings():
            if is_over(standing):
                for cell in range(len(standing[0])):
                    self.assertIsNone(chain(standing, cell))

    def test_calls_in_every_way(self):
        for standing in standings()[::12]:
            for cell in range(0, len(standing[0]), 7):
                self.value_of(chain, standing=standing, cell=cell)


class ChainErrorTest(GuardCase):

    def test_odd_values(self):
        for value in ODD_VALUES:
            for standing in (HALF, LONG):
                self.assert_told(
                    shieldmodel.fault(standing, 1, value), chain_error, standing=standing, cell=1, value=value)

    def test_form(self):
        for value in (
                (), (0,), (3,), [0, 3], (0, True), (False, 3), (0, 7), (0, -1), (0, None), (0, "3"), (0, (3,)), (0, 3, None),
                ((0, 3),), {0: 3}, "03", (0, 3, 10 ** 30)):
            self.assert_told("form", chain_error, standing=HALF, cell=3, value=value)
        self.assert_told("form", chain_error, standing=((), (), ((None,),), (True,)), cell=0, value=(0, 0))

    def test_marks(self):
        for value, place in (
                ((1, 3), 0), ((2, 5), 0), ((0, 2), 1), ((0, 0), 1), ((0, 1, 2), 2), ((0, 3, 0), 2), ((5, 2), 0), ((0, 3, 3, 0), 3)):
            self.assert_told(("mark", place), chain_error, standing=HALF, cell=3, value=value)

    def test_fields(self):
        for value, place in (((0, 1), 1), ((0, 3, 3), 2), ((0, 5), 1), ((0, 1, 4), 1), ((0, 3, 6), 2), ((0, 6, 6), 1)):
            self.assert_told(("field", place), chain_error, standing=HALF, cell=3, value=value)
        earlier = HALF[:1] + ((0,) + HALF[1][1:],) + HALF[2:]
        self.assert_told(("field", 2), chain_error, standing=earlier, cell=5, value=(0, 1, 5))
        self.assert_told(("field", 3), chain_error, standing=earlier, cell=5, value=(0, 1, 4, 5))

    def test_end(self):
        for cell in (0, 1, 2, 4, 5, 6):
            self.assert_told("end", chain_error, standing=HALF, cell=cell, value=(0, 3))
        self.assert_told(None, chain_error, standing=HALF, cell=3, value=(0, 3))

    def test_a_cell_may_stand_twice(self):
        earlier = HALF[:1] + ((0,) + HALF[1][1:],) + HALF[2:]
        for value in ((0, 1, 1), (0, 1, 1, 1), (0, 1, 4, 4, 4)):
            self.assert_told(None, chain_error, standing=earlier, cell=value[-1], value=value)
        round_one = (ring(3), (0, "white", "white"), ((None,),), (True,))
        self.assert_told(("mark", 3), chain_error, standing=round_one, cell=1, value=(0, 1, 2, 0, 1))

    def test_the_order_of_faults(self):
        """A later item that is no cell comes ahead of a mark, a mark ahead of a field, this one ahead of the end."""
        self.assert_told("form", chain_error, standing=HALF, cell=3, value=(1, 1, 99))
        self.assert_told(("mark", 2), chain_error, standing=HALF, cell=3, value=(0, 5, 2))
        self.assert_told(("field", 1), chain_error, standing=HALF, cell=3, value=(0, 5))

    def test_of_all_kinds(self):
        chance = random.Random(82)
        found = {}
        for standing in [*standings(), *marked_in_many_ways()]:
            cells = range(len(standing[0]))
            chains = [chain(standing, cell) for cell in cells]
            values = [found_one for found_one in chains if found_one is not None]
            for value in values[:4]:
                at = chance.randrange(len(value))
                values.append(value[:at] + (chance.choice(cells),) + value[at + 1:])
                values.append(value[:at] + value[at + 1:])
                values.append(value + (chance.choice(cells),))
            for value in values:
                for cell in {value[-1] if value else 0, chance.choice(cells)}:
                    expected = shieldmodel.fault(standing, cell, value)
                    found[expected if type(expected) is not tuple else expected[0]] = True
                    self.assertEqual(chain_error(standing, cell, value), expected, (standing, cell, value))
        self.assertEqual(set(found), {None, "form", "mark", "field", "end"})


class BrokenTest(GuardCase):

    def test_by_hand(self):
        for way, cells in (("child", (1, 5)), ("last", (1, 5)), ("old", (1, 5)), ("read", (1, 3, 5))):
            self.assert_told(cells, broken, way=way, standing=HALF)
            self.assert_told(False, invariant, way=way, standing=HALF)
        # The cell 4 is held, and a chain leads to it over 1.
        deep = (HALF[0], (0, "white") + ("white",) * 5, ((4,),), (True,))
        for way, cells in (("child", (4,)), ("last", ()), ("old", ()), ("read", (4,))):
            self.assert_told(cells, broken, way=way, standing=deep)
            self.assert_told(cells == (), invariant, way=way, standing=deep)

    def test_starts_break_nothing(self):
        for standing in (start(HALF[0], ((0, 4), (6,)), 3), start(row_of_cells(40), ((3,),) * 4, 0), FULL_HANDS, ROW, WIDE):
            for way in WAYS:
                self.assert_told((), broken, way=way, standing=standing)
                self.assert_told(True, invariant, way=way, standing=standing)

    def test_of_all_kinds(self):
        found = {}
        for standing in [*standings(), *marked_in_many_ways()]:
            for way in WAYS:
                cells = shieldmodel.broken_by(way, standing)
                found[way, cells == ()] = True
                self.assertEqual(broken(way, standing), cells, (way, standing))
                self.assertIs(invariant(way, standing), cells == ())
        self.assertEqual(len(found), 8)

    def test_calls_in_every_way(self):
        for standing in standings()[::10]:
            for way in WAYS:
                cells = shieldmodel.broken_by(way, standing)
                self.assert_told(cells, broken, way=way, standing=standing)
                self.assert_told(cells == (), invariant, way=way, standing=standing)

    def test_quickly(self):
        with Quickly(5):
            for _ in range(200):
                for way in WAYS:
                    broken(way, LONG)
                chain(LONG, 39)


class WhatHoldsTest(GuardCase):
    """[G5]"""

    def drawn_runs(self, seed):
        """Books that are safe, how many hands they are for, and drawn runs of them from starts."""
        chance = random.Random(seed)
        books = [maker(pieces) for maker in (dijkstra, steele, yuasa, baker, hybrid) for pieces in (False, True)]
        books += near_books(chance, 150)
        for book in books:
            for hands in (1, 2, 3):
                if ways(book, hands):
                    heap, rooms = chance.choice((
                        (((1, None), (2,), ()), ((0, None), (0, 1), (None,))),
                        (((None, None), (), (0,)), ((0, None, 1), (0, 1), (2, None))),
                        (((1,), (2,), (3, None), (0, 1, 2)), ((0, None, 2), (1, None), (0,)))))
                    first = start(heap, rooms[:hands], chance.randrange(3))
                    yield book, hands, first, random_run(chance, book, first, 15)

    def test_the_invariant_of_each_way_of_a_safe_book_holds_along_each_run(self):
        asked = {}
        for book, hands, standing, deeds in self.drawn_runs(83):
            for deed in (None,) + deeds:
                standing = standing if deed is None else after(book, standing, deed)
                for way in ways(book, hands):
                    asked[way] = asked.get(way, 0) + 1
                    self.assertTrue(invariant(way, standing), (book, way, standing))
        self.assertEqual(set(asked), set(WAYS))

    def test_other_books_break_them(self):
        chance = random.Random(84)
        found = {}
        first = start(((1, None), (2,), ()), ((0, None), (0, 1)), 1)
        for _ in range(60):
            standing = first
            for deed in random_run(chance, bare(False, False), first, 12):
                standing = after(bare(False, False), standing, deed)
                for way in WAYS:
                    if not invariant(way, standing):
                        found[way] = True
        self.assertEqual(set(found), set(WAYS))

    def test_nothing_is_lost_where_an_invariant_holds_in_the_end(self):
        asked = 0
        for standing in [ended(one) for one in [*standings(), *marked_in_many_ways()]]:
            for last in (False, True):
                for way in WAYS:
                    if invariant(way, standing) and (way != "last" or last):
                        asked += 1
                        self.assertEqual(lost(bare(last, False), standing), ())
        self.assertGreater(asked, 100)

    def test_which_invariants_lead_to_others(self):
        for standing in [*standings(), *marked_in_many_ways()]:
            if invariant("read", standing):
                self.assertTrue(all(invariant(way, standing) for way in WAYS))
            if invariant("child", standing):
                self.assertTrue(invariant("old", standing))

    def test_what_is_behind_a_shaded_cell_of_a_chain_has_a_chain_still(self):
        for standing in [LONG, *standings()[:80], *marked_in_many_ways()]:
            heap, marks, hands, looked = standing
            for cell in range(0, len(heap), 5):
                found = chain(standing, cell) or ()
                for place in range(1, len(found)):
                    mark = 0 if heap[found[place]] else "black"
                    behind = (heap, marks[:found[place]] + (mark,) + marks[found[place] + 1:], hands, looked)
                    for later in found[place + 1:]:
                        self.assertIsNotNone(chain(behind, later))

    def test_scans_break_nothing(self):
        scans = 0
        for standing in [*standings()[::2], *marked_in_many_ways()]:
            for pieces in (False, True):
                for deed in done_deeds(standing):
                    if deed[0] == "scan":
                        scans += 1
                        behind = after(bare(True, pieces), standing, deed)
                        for way in WAYS:
                            self.assertLessEqual(set(broken(way, behind)), set(broken(way, standing)), (standing, deed))
        self.assertGreater(scans, 200)


if __name__ == "__main__":
    unittest.main()
