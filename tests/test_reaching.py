"""[A9], [A10]: what hands come to, and shortest ways."""

import random
import unittest

from guardbooks.reaching import reached, way_to
from guardbooks.standings import standing_error, start
from tests.standingpool import (
    FULL_HANDS, LATE, MANY, NAMED, NO_HAND, ROUND, ROW, SELVES, WIDE, chain, random_standings, ring,
    small_standings, white)
from tests.support import GuardCase, PAIR, Quickly


def lengths(standing):
    """How many items shortest ways have: found by going over all fields again and again, not by levels."""
    heap, _, hands, _ = standing
    found = {held: 2 for rooms in hands for held in rooms if held is not None}
    for _ in heap:
        for cell, fields in enumerate(heap):
            for named in fields:
                if cell in found and named is not None:
                    found[named] = min(found.get(named, 99), found[cell] + 1)
    return found


def walked(standing, way):
    """The cell at which a way ends; fails where it goes through None."""
    heap, _, hands, _ = standing
    cell = hands[way[0]][way[1]]
    for field in way[2:]:
        cell = heap[cell][field]
    return cell


class ReachingTest(GuardCase):

    def assert_right(self, standing):
        found = lengths(standing)
        self.assert_told(tuple(sorted(found)), reached, standing=standing)
        for cell in range(len(standing[0])):
            way = self.value_of(way_to, standing=standing, cell=cell)
            if cell in found:
                self.assertIs(type(way), tuple)
                self.assertTrue(all(type(item) is int and item >= 0 for item in way), way)
                self.assertEqual(len(way), found[cell])
                self.assertEqual(walked(standing, way), cell)
                self.assertLessEqual(len(way), len(standing[0]) + 1)
                self.assertNotEqual(standing[1][cell], "free")
            else:
                self.assertIsNone(way)

    def test_the_test_standings_are_standings(self):
        for standing in [*NAMED, *random_standings()]:
            self.assertIsNone(standing_error(standing))

    def test_named_ones(self):
        for standing in NAMED:
            self.assert_right(standing)

    def test_random_ones(self):
        for standing in random_standings():
            self.assert_right(standing)

    def test_small_ones(self):
        for standing in small_standings():
            found = lengths(standing)
            self.assertEqual(reached(standing), tuple(sorted(found)))
            for cell in (0, 1):
                way = way_to(standing, cell)
                self.assertEqual(None if way is None else len(way), found.get(cell))
                self.assertTrue(way is None or walked(standing, way) == cell)

    def test_no_cell(self):
        for hands in (NO_HAND, ((None,) * 4,) * 4):
            self.assert_told((), reached, standing=((), (), hands, (True,) * len(hands)))

    def test_no_hand_comes_to_any_cell(self):
        for heap in (ring(MANY), chain(MANY), PAIR):
            self.assert_told((), reached, standing=white(heap, ((None, None), (None,))))
            self.assert_told(None, way_to, standing=white(heap, ((None, None), (None,))), cell=1)

    def test_forty_in_a_row(self):
        self.assert_told(tuple(range(40)), reached, standing=ROW)
        self.assert_told((0, 1) + (1,) * 39, way_to, standing=ROW, cell=39)
        self.assert_told((0, 1), way_to, standing=ROW, cell=0)
        held_last = white(chain(MANY), ((None, 39),))
        self.assert_told((39,), reached, standing=held_last)
        self.assert_told(None, way_to, standing=held_last, cell=38)
        other_way_round = white(tuple((cell - 1,) if cell else () for cell in range(MANY)), ((39,),))
        self.assert_told((0, 0) + (0,) * 39, way_to, standing=other_way_round, cell=0)

    def test_rings(self):
        self.assert_told((0, 0) + (0,) * 39, way_to, standing=ROUND, cell=6)
        self.assert_told((0, 0), way_to, standing=ROUND, cell=7)

    def test_cells_that_name_themselves(self):
        self.assert_told((3, 5, 39), reached, standing=SELVES)
        self.assert_told((1, 1), way_to, standing=SELVES, cell=39)
        self.assert_told(None, way_to, standing=SELVES, cell=4)

    def test_the_nearest_hand(self):
        self.assert_told((1, 1), way_to, standing=LATE, cell=2)
        self.assert_told((0, 2), way_to, standing=LATE, cell=3)
        self.assert_told((1, 0, 0), way_to, standing=LATE, cell=1)

    def test_same_cell_in_several_rooms(self):
        standing = white(((1,), ()), ((0, 0), (0, 0, 0, 0)))
        self.assert_right(standing)
        self.assertEqual(len(way_to(standing, 1)), 3)

    def test_free_cells(self):
        standing = start(PAIR, ((0, 2),), 37)
        self.assert_told((0, 1, 2), reached, standing=standing)
        for cell in range(3, 40):
            self.assert_told(None, way_to, standing=standing, cell=cell)

    def test_marks_and_looks_play_no_part(self):
        for standing in [*NAMED, *random_standings()]:
            heap, marks, hands, looked = standing
            other = (
                heap, tuple("free" if mark == "free" else "black" for mark in marks), hands,
                tuple(not item for item in looked))
            self.assertEqual(reached(other), reached(standing))
            for cell in range(len(heap)):
                self.assertEqual(length_of(other, cell), length_of(standing, cell))

    def test_order_of_rooms_and_hands_plays_no_part(self):
        for heap, marks, hands, looked in [*NAMED, *random_standings()]:
            turned = (heap, marks, tuple(rooms[::-1] for rooms in hands[::-1]), looked)
            rolled = (heap, marks, tuple(rooms[1:] + rooms[:1] for rooms in hands[1:] + hands[:1]), looked)
            for other in (turned, rolled):
                self.assertEqual(reached(other), reached((heap, marks, hands, looked)))
                for cell in range(len(heap)):
                    self.assertEqual(length_of(other, cell), length_of((heap, marks, hands, looked), cell))

    def test_single_hands_together(self):
        for heap, marks, hands, looked in [*NAMED, *random_standings()]:
            together = set()
            for hand in hands:
                together |= set(reached((heap, marks, (hand,), (True,))))
            self.assertEqual(reached((heap, marks, hands, looked)), tuple(sorted(together)))

    def test_less_is_never_more(self):
        chance = random.Random(8)
        for heap, marks, hands, looked in [*NAMED, *random_standings()]:
            fewer = tuple(tuple(chance.choice((item, item, None)) for item in fields) for fields in heap)
            held = tuple(tuple(chance.choice((item, item, None)) for item in rooms) for rooms in hands)
            whole = set(reached((heap, marks, hands, looked)))
            for other in ((fewer, marks, hands, looked), (heap, marks, held, looked), (fewer, marks, held, looked)):
                self.assertLessEqual(set(reached(other)), whole)

    def test_of_start(self):
        for heap, marks, hands, _ in [*NAMED, *random_standings()]:
            if "free" not in marks:
                begun = start(heap, hands, 40 - len(heap))
                self.assertEqual(reached(begun), reached(white(heap, hands)))

    def test_quickly(self):
        with Quickly(10):
            for standing in (ROW, ROUND, WIDE, FULL_HANDS):
                for _ in range(20):
                    reached(standing)
                    for cell in range(MANY):
                        way_to(standing, cell)


def length_of(standing, cell):
    way = way_to(standing, cell)
    return None if way is None else len(way)


if __name__ == "__main__":
    unittest.main()
