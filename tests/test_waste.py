"""Touched slots [15]."""

import itertools
import unittest

from lentblocks.bound import lines, unit
from lentblocks.first import first_stands
from lentblocks.waste import (
    back_blocks,
    free_slots,
    is_back,
    least_back,
    slot_sums,
    stuck_sizes,
    touched_by,
    touched_cells,
)
from tests.cells import THINGS, cells_of, free_by_cells, random_row, stands_by_cells
from tests.helper import Case

CHAIN = (1, 2, 4)
STAND = ((0, 1), (2, 1), (4, 2), (9, 1))
GREAT = 10 ** 30
FAR = ((0, 1), (2, 2), (GREAT - 8, 4), (GREAT - 2, 1))
POOLS = (((1,), 3), ((1, 2), 6), ((1, 2, 4), 8), ((1, 3, 6), 6), ((1, 2, 6), 6), ((1, 4), 8))


def live(blocks):
    return sum(size for _, size in blocks)


def parts_of(stand):
    return [
        part for many in range(len(stand) + 1) for part in itertools.combinations(stand, many)
    ]


def frees(pool, stand, size, part):
    """Whether a slot of this size is free without this part of the STAND."""
    return free_by_cells(pool, set(stand) - set(part), size) != []


def fewest(pool, stand, size):
    """The least LIVE of a part of the STAND without which a slot is free."""
    return min(
        [live(part) for part in parts_of(stand) if frees(pool, stand, size, part)], default=None)


class Slots(Case):
    def test_edges(self):
        for size in CHAIN:
            self.tells(0, free_slots, 0, (), size)
            self.tells(12 // size, free_slots, 12, (), size)
            self.tells(0, free_slots, 4, ((0, 4),), size)
            self.tells(0, touched_cells, (), size)
            self.tells(4, touched_cells, ((0, 4),), size)
            self.tells((), slot_sums, 0, (), size)
            self.tells((0,) * (12 // size), slot_sums, 12, (), size)
            self.tells((size,) * (4 // size), slot_sums, 4, ((0, 4),), size)
        self.tells((0, 0, 0), touched_by, CHAIN, ())
        self.tells((0,), touched_by, (1,), ())
        self.tells((1, 64), touched_by, (1, 64), ((63, 1),))
        self.tells((), stuck_sizes, CHAIN, 0, ())
        self.tells((), stuck_sizes, CHAIN, 4, ())
        self.tells((), stuck_sizes, CHAIN, 4, ((0, 4),))

    def test_touched_by_greater_blocks(self):
        self.tells(8, touched_cells, ((0, 8),), 2)
        self.tells(8, touched_cells, ((0, 8),), 1)
        self.tells(12, touched_cells, ((0, 4), (4, 4), (9, 1)), 4)
        self.tells(10, touched_cells, ((0, 4), (4, 4), (9, 1)), 2)
        self.tells(9, touched_cells, ((0, 4), (4, 4), (9, 1)), 1)
        self.tells(16, touched_cells, ((0, 4), (4, 4), (9, 1)), 8)
        self.tells(16, touched_cells, ((0, 1), (7, 1), (8, 1), (15, 1)), 8)

    def test_stuck(self):
        # As many cells as the size are enough, one less is not.
        self.tells((2,), stuck_sizes, (1, 2), 4, ((0, 1), (2, 1)))
        self.tells((), stuck_sizes, (1, 2), 4, ((0, 2), (2, 1)))
        self.tells((2, 4), stuck_sizes, CHAIN, 8, ((0, 1), (2, 1), (4, 1), (6, 1)))
        self.tells((2,), stuck_sizes, CHAIN, 8, ((0, 1), (2, 2), (4, 2), (6, 1)))
        self.tells((4,), stuck_sizes, CHAIN, 8, ((0, 1), (4, 1)))
        self.tells((4,), stuck_sizes, CHAIN, 8, ((1, 1), (2, 1), (4, 2)))
        self.tells((), stuck_sizes, CHAIN, 8, ((0, 1), (1, 1), (2, 1), (4, 2)))
        self.tells((), stuck_sizes, CHAIN, 8, ((0, 1), (2, 1)))
        self.tells((), stuck_sizes, CHAIN, GREAT, FAR)

    def test_all_stands_of_small_pools(self):
        for chain, pool in POOLS:
            for stand in stands_by_cells(chain, pool):
                used = cells_of(stand)
                told = []
                for size in chain:
                    free = len(free_by_cells(pool, stand, size))
                    self.assertEqual(free_slots(pool, stand, size), free)
                    touched = {cell // size for cell in used}
                    told.append(size * len(touched))
                    self.assertEqual(touched_cells(stand, size), size * len(touched))
                    self.assertEqual(slot_sums(pool, stand, size), tuple(
                        len(used & set(range(low, low + size))) for low in range(0, pool, size)))
                self.assertEqual(touched_by(chain, stand), tuple(told))
                self.assertEqual(told, sorted(told))
                self.assertEqual(stuck_sizes(chain, pool, stand), tuple(
                    size for size in chain if pool - len(used) >= size
                    and not free_by_cells(pool, stand, size)))

    def test_great_pools(self):
        for size, free, touched in ((1, GREAT - 8, 8), (2, GREAT // 2 - 5, 10),
                                    (4, GREAT // 4 - 3, 12)):
            self.tells(free, free_slots, GREAT, FAR, size)
            self.tells(touched, touched_cells, FAR, size)
        self.tells((8, 10, 12), touched_by, CHAIN, FAR)

    def test_4096_slots(self):
        stand = tuple((64 * at, 32) for at in range(64))
        self.tells((1,) * 32 + (0,) * 32, lambda pool, stand, size: slot_sums(
            pool, stand, size)[64 * 63:], 4096, stand, 1)
        self.tells((32,) * 64, slot_sums, 4096, stand, 64)
        self.tells((32,) * 64 + (0,) * 4032, slot_sums, 64 * 4096, stand, 64)

    def test_behind_first_place(self):
        for chain in ((1, 2), (1, 2, 4), (1, 3, 6)):
            budget = unit(chain)
            bar = lines(chain, budget)[-1]
            for seed in range(20):
                row = random_row(chain, budget, 60, seed)
                for stand in first_stands(chain, bar, row):
                    self.assertLessEqual(touched_by(chain, stand)[-1], bar)


class Back(Case):
    def test_edges(self):
        for size in CHAIN:
            self.tells(None, least_back, 0, (), size)
            self.tells(None, back_blocks, 0, (), size)
            for pool, stand in ((4, ()), (8, ((0, 4),)), (8, ((0, 1), (3, 1)))):
                self.tells(0, least_back, pool, stand, size)
                self.tells((), back_blocks, pool, stand, size)
                self.tells(True, is_back, pool, stand, size, ())
                self.tells(False, is_back, pool, stand, size, stand[:1] if stand else ((0, 1),))
            self.tells(4, least_back, 4, ((0, 4),), size)
            self.tells(((0, 4),), back_blocks, 4, ((0, 4),), size)
            self.tells(True, is_back, 4, ((0, 4),), size, ((0, 4),))
            self.tells(False, is_back, 4, ((0, 4),), size, ())

    def test_nothing_is_free_in_no_pool(self):
        for size in CHAIN:
            for thing in (*THINGS, (), ((0, 1),)):
                self.tells(False, is_back, 0, (), size, thing)

    def test_fewest_cells_not_fewest_blocks(self):
        stand = ((0, 4), (8, 1), (9, 1), (11, 1))
        self.tells(3, least_back, 12, ((0, 4), (4, 4), (8, 1), (9, 1), (11, 1)), 4)
        self.tells(((8, 1), (9, 1), (11, 1)), back_blocks, 12, ((0, 4), (4, 4), *stand[1:]), 4)
        self.tells(4, least_back, 8, ((0, 4), (4, 2), (6, 2)), 4)
        self.tells(2, least_back, 8, ((0, 4), (4, 2), (6, 2)), 2)
        # A small slot in a greater BLOCK wants all of it back.
        self.tells(8, least_back, 16, ((0, 8), (8, 8)), 1)
        self.tells(True, is_back, 16, ((0, 8), (8, 8)), 1, ((0, 8),))
        self.tells(True, is_back, 16, ((0, 8), (8, 8)), 1, ((8, 8),))
        self.tells(False, is_back, 16, ((0, 8), (8, 8)), 1, ((0, 8), (8, 8)))

    def test_all_parts_of_small_stands(self):
        found = 0
        for chain, pool in POOLS:
            for stand in stands_by_cells(chain, pool)[::3]:
                for size in chain:
                    least = fewest(pool, stand, size)
                    self.assertEqual(least_back(pool, stand, size), least)
                    told = back_blocks(pool, stand, size)
                    self.assertEqual(live(told), least)
                    self.assertTrue(frees(pool, stand, size, told))
                    self.assertTrue(is_back(pool, stand, size, told))
                    for part in parts_of(stand):
                        right = live(part) == least and frees(pool, stand, size, part)
                        found += right
                        self.assertEqual(is_back(pool, stand, size, part), right)
        self.assertGreater(found, 500)

    def test_is_back(self):
        stand = ((0, 1), (1, 1), (4, 2), (9, 1), (10, 1))
        self.tells(2, least_back, 12, stand, 4)
        for thing, told in (
            (((4, 2),), True), (((0, 1), (1, 1)), True), (((9, 1), (10, 1)), True),
            (((1, 1), (9, 1)), False), (((1, 1), (0, 1)), False), (((0, 1), (0, 1)), False),
            (((0, 1),), False), ((), False), (((0, 1), (1, 1), (4, 2)), False),
            (((4, 1), (5, 1)), False), (((8, 2),), False), ([(4, 2)], False), (([4, 2],), False),
            (((0, True), (1, 1)), False), (((False, 1), (1, 1)), False), ((4, 2), False),
            (((0, 1), (True, 1)), False), (((4, 2, 0),), False), (((4,),), False),
            (((4, "2"),), False), ((((4, 2),),), False), (((0, 2),), False),
            (((0, 1),) * 3000, False), (tuple((at, 1) for at in range(3000)), False),
        ):
            self.tells(told, is_back, 12, stand, 4, thing)

    def test_other_things(self):
        for thing in THINGS:
            self.tells(False, is_back, 12, STAND, 4, thing)
            self.tells(False, is_back, 12, STAND, 4, (thing,))
            one = type(thing) is int and thing == 1
            self.tells(one, is_back, 12, STAND, 4, ((9, thing),))
            self.tells(False, is_back, 12, STAND, 4, ((thing, 1),))
            self.tells(thing == (), is_back, 12, STAND, 2, thing)

    def test_256_blocks(self):
        stand = tuple((32 * at, 1 + at % 2) for at in range(256))
        self.tells(1, least_back, 8192, stand, 32)
        self.tells(True, is_back, 8192, stand, 32, ((64, 1),))
        self.tells(False, is_back, 8192, stand, 32, ((32, 2),))
        full = tuple((64 * at, 64) for at in range(256))
        self.tells(64, least_back, 64 * 256, full, 1)

    def test_great_pools(self):
        for size in CHAIN:
            self.tells(0, least_back, GREAT, FAR, size)
            self.tells((), back_blocks, GREAT, FAR, size)
            self.tells(True, is_back, GREAT, FAR, size, ())
            self.tells(False, is_back, GREAT, FAR, size, ((0, 1),))

    def test_called_in_all_ways(self):
        for size in CHAIN:
            told = self.outcome_of(back_blocks, (12, STAND, size))[1]
            self.tells(live(told), least_back, 12, STAND, size)
            self.tells(True, is_back, 12, STAND, size, told)


if __name__ == "__main__":
    unittest.main()
