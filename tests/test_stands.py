"""Stands, slots, places [5]."""

import itertools
import unittest

from lentblocks.errors import NoNumber, NoPlace
from lentblocks.stands import (
    block_at,
    free_blocks,
    greatest_fit,
    holes,
    how_many_places,
    is_block,
    is_place,
    is_stand,
    last_end,
    live,
    nth_place,
    put,
    sizes_of,
    taken,
)
from tests.cells import cells_of, free_by_cells, stands_by_cells
from tests.helper import Case

CHAIN = (1, 2, 4)
STAND = ((1, 1), (4, 2))
GREAT = 10 ** 30
FAR = ((0, 1), (GREAT - 8, 4), (GREAT - 2, 1))
SMALL = (((1,), 3), ((1,), 0), ((1, 2), 4), ((1, 3), 6), ((1, 2, 4), 8), ((1, 2, 6), 6), ((1, 4), 0))

THINGS = (
    None, True, False, 0, 7, -1, "", "ab", [], [0, 1], (), (0,), (0, 1, 1), ("0", "1"), (0, None),
    (None, 1), (0, True), (False, 1), (True, True), ((0, 1), 1), (0, (1,)), ([0], 1), (0, [1]),
)


class IsBlock(Case):
    def test_blocks(self):
        for block in ((0, 1), (5, 1), (0, 2), (4, 2), (0, 4), (8, 4), (GREAT, 4), (GREAT + 1, 1)):
            self.tells(True, is_block, CHAIN, block)
        self.tells(True, is_block, (1,), (7, 1))
        self.tells(True, is_block, (1, 64), (128, 64))

    def test_wrong_blocks(self):
        for block in (
            (3, 2), (2, 4), (0, 3), (0, 0), (0, -1), (0, -2), (-1, 1), (-2, 2), (-4, 4), (0, 8),
            (GREAT + 1, 2), (4, GREAT), (2, 5),
        ):
            self.tells(False, is_block, CHAIN, block)
        self.tells(False, is_block, (1,), (0, 2))

    def test_other_things(self):
        for thing in (*THINGS, [4, 2], ((4, 2),), [(4, 2)], (4, "2"), (4, 2, 0), tuple(range(999))):
            self.tells(False, is_block, CHAIN, thing)


class IsStand(Case):
    def test_stands(self):
        self.tells(True, is_stand, CHAIN, 0, ())
        self.tells(True, is_stand, CHAIN, 12, ())
        self.tells(True, is_stand, CHAIN, 12, STAND)
        self.tells(True, is_stand, CHAIN, 8, ((0, 1), (1, 1), (2, 2), (4, 4)))
        self.tells(True, is_stand, CHAIN, GREAT, FAR)
        self.tells(True, is_stand, (1,), 3, ((2, 1),))

    def test_however_many_blocks(self):
        many = tuple((first, 1) for first in range(3000))
        self.tells(True, is_stand, (1,), 3000, many)
        self.tells(False, is_stand, (1,), 2999, many)
        self.tells(True, is_stand, (1,), 10 ** 50, ((10 ** 50 - 1, 1),))

    def test_wrong_stands(self):
        for pool, thing in (
            (4, STAND), (0, ((0, 1),)), (4, ((4, 1),)), (8, ((8, 4),)),
            (12, ((4, 2), (1, 1))), (12, ((0, 4), (2, 2))), (12, ((2, 2), (2, 1))),
            (12, ((1, 1), (1, 1))), (12, ((0, 2), (1, 1))), (12, ((0, 1), (0, 2))),
            (12, ((0, 4), (0, 4))), (12, ((3, 2),)), (12, ((0, 3),)), (12, ((-1, 1),)),
            (12, ((0, 0),)), (12, ((-4, 4), (0, 1))), (GREAT, ((GREAT, 4),)),
        ):
            self.tells(False, is_stand, CHAIN, pool, thing)

    def test_other_things(self):
        for thing in (
            None, True, False, 0, "", "ab", [], [(0, 1)], [[0, 1]], (0, 1), (0,), ((0, 1), 1),
            ([0, 1],), ((0, 1), [2, 2]), ((0, True),), ((False, 1),), (("0", 1),), ((0, 1), None),
            (None,), ((),), ((0,),), ((0, 1, 2),), (((0, 1),),), ((0, 1), "ab"),
        ):
            self.tells(False, is_stand, CHAIN, 12, thing)

    def test_all_rows_of_two_blocks(self):
        for first, size, other, length in itertools.product(range(5), CHAIN, range(5), CHAIN):
            blocks = ((first, size), (other, length))
            right = (
                first % size == 0 and other % length == 0 and blocks[0] < blocks[1]
                and first + size <= 4 and other + length <= 4
                and not cells_of(blocks[:1]) & cells_of(blocks[1:])
            )
            self.tells(right, is_stand, CHAIN, 4, blocks)


class Told(Case):
    def test_empty(self):
        self.tells(0, live, ())
        self.tells((), sizes_of, ())
        self.tells(0, last_end, ())
        self.tells(None, block_at, (), 0)
        self.tells((), holes, 0, ())
        self.tells(((0, 12),), holes, 12, ())
        self.tells(((0, GREAT),), holes, GREAT, ())

    def test_blocks_are_counted(self):
        stand = ((0, 4), (4, 1), (6, 2), (8, 4), (13, 1), (14, 1))
        self.tells(13, live, stand)
        self.tells(((1, 3), (2, 1), (4, 2)), sizes_of, stand)
        self.tells(15, last_end, stand)
        self.tells(((5, 1), (12, 1), (15, 1)), holes, 16, stand)

    def test_great_numbers(self):
        self.tells(6, live, FAR)
        self.tells(((1, 2), (4, 1)), sizes_of, FAR)
        self.tells(GREAT - 1, last_end, FAR)
        self.tells(
            ((1, GREAT - 9), (GREAT - 4, 2), (GREAT - 1, 1)), holes, GREAT, FAR
        )
        self.tells((GREAT - 8, 4), block_at, FAR, GREAT - 5)

    def test_block_at(self):
        for cell, block in (
            (-1, None), (0, None), (1, (1, 1)), (2, None), (3, None), (4, (4, 2)), (5, (4, 2)),
            (6, None), (-4, None), (GREAT, None), (-GREAT, None),
        ):
            self.tells(block, block_at, STAND, cell)


class Places(Case):
    def test_how_many_places(self):
        self.tells(0, how_many_places, 0, (), 4)
        self.tells(3, how_many_places, 12, (), 4)
        self.tells(GREAT // 2 - 2, how_many_places, GREAT, STAND, 2)
        self.tells(GREAT // 4 - 3, how_many_places, GREAT, FAR, 4)
        self.tells(GREAT - 6, how_many_places, GREAT, FAR, 1)

    def test_is_place(self):
        for size, first, told in (
            (1, 0, True), (1, 1, False), (1, 11, True), (1, 12, False), (1, -1, False),
            (2, 2, True), (2, 3, False), (2, 0, False), (2, 4, False), (2, 10, True),
            (2, 12, False), (2, -2, False), (4, 8, True), (4, 4, False), (4, 12, False),
            (4, -4, False), (1, GREAT, False), (4, -GREAT, False),
        ):
            self.tells(told, is_place, 12, STAND, size, first)
        self.tells(True, is_place, GREAT, FAR, 4, GREAT - 12)
        self.tells(False, is_place, GREAT, FAR, 4, GREAT - 4)
        self.tells(True, is_place, GREAT, FAR, 2, GREAT - 4)
        self.tells(False, is_place, GREAT, FAR, 2, GREAT)
        self.tells(False, is_place, 0, (), 1, 0)

    def test_nth_place(self):
        self.tells(2, nth_place, 12, STAND, 2, 0)
        self.tells(10, nth_place, 12, STAND, 2, 3)
        self.tells(4, nth_place, GREAT, FAR, 4, 0)
        self.tells(GREAT - 12, nth_place, GREAT, FAR, 4, GREAT // 4 - 4)
        self.tells(GREAT - 1, nth_place, GREAT, FAR, 1, GREAT - 7)
        self.tells(4 * 10 ** 20 + 4, nth_place, GREAT, FAR, 4, 10 ** 20)
        for pool, stand, size, number in (
            (12, STAND, 4, 1), (12, STAND, 2, 4), (12, STAND, 2, -1), (12, STAND, 1, -GREAT),
            (12, STAND, 1, GREAT), (0, (), 1, 0), (4, ((0, 4),), 1, 0),
            (GREAT, FAR, 4, GREAT // 4 - 3),
        ):
            self.refuses(NoNumber, {"number": number}, nth_place, pool, stand, size, number)

    def test_greatest_fit(self):
        self.tells(None, greatest_fit, CHAIN, 0, ())
        self.tells(None, greatest_fit, CHAIN, 4, ((0, 4),))
        self.tells(1, greatest_fit, CHAIN, 4, ((0, 1), (2, 1)))
        self.tells(2, greatest_fit, CHAIN, 4, ((0, 1),))
        self.tells(4, greatest_fit, CHAIN, 8, ((0, 1),))
        self.tells(64, greatest_fit, (1, 64), GREAT - GREAT % 64, ((0, 1),))
        self.tells(1, greatest_fit, (1, 64), 64, ((63, 1),))


class PutAndTaken(Case):
    def test_put(self):
        self.tells(((0, 1),), put, 4, (), 0, 1)
        self.tells(((1, 1), (2, 2), (4, 2)), put, 12, STAND, 2, 2)
        self.tells(((0, 1), *STAND), put, 12, STAND, 0, 1)
        self.tells((*STAND, (8, 4)), put, 12, STAND, 8, 4)
        self.tells((*FAR, (GREAT - 1, 1)), put, GREAT, FAR, GREAT - 1, 1)

    def test_no_place(self):
        for pool, stand, first, size in (
            (12, STAND, 0, 4), (12, STAND, 3, 2), (12, STAND, 4, 2), (12, STAND, 5, 1),
            (12, STAND, 12, 1), (12, STAND, -1, 1), (12, STAND, -4, 4), (12, STAND, GREAT, 2),
            (12, STAND, -GREAT, 2), (0, (), 0, 1), (4, ((0, 4),), 0, 4), (8, (), 6, 4),
        ):
            self.refuses(NoPlace, {"number": first}, put, pool, stand, first, size)

    def test_taken(self):
        self.tells((), taken, ((0, 4),), 0)
        self.tells(((1, 1),), taken, STAND, 4)
        self.tells(((4, 2),), taken, STAND, 1)
        self.tells((FAR[0], FAR[2]), taken, FAR, GREAT - 8)
        for stand, first in (
            (STAND, 5), (STAND, 0), (STAND, -1), ((), 0), (STAND, GREAT), (STAND, -GREAT),
        ):
            self.refuses(NoNumber, {"number": first}, taken, stand, first)


class FreeBlocks(Case):
    def test_edges(self):
        self.tells((), free_blocks, CHAIN, 0, ())
        self.tells((), free_blocks, CHAIN, 4, ((0, 4),))
        self.tells(((0, 4), (4, 4), (8, 4)), free_blocks, CHAIN, 12, ())
        self.tells(((0, 1), (1, 1)), free_blocks, (1,), 2, ())
        self.tells(tuple((at, 64) for at in range(0, 4096, 64)), free_blocks, (1, 64), 4096, ())
        rest = tuple((cell, 1) for cell in range(1, 64)) + ((64, 64),)
        self.tells(rest, free_blocks, (1, 64), 128, ((0, 1),))
        self.tells(tuple((cell, 1) for cell in range(1, 4096, 2)), free_blocks, (1, 2), 4096,
                   tuple((cell, 1) for cell in range(0, 4096, 2)))
        self.tells(((1, 1), (2, 2), (4, 2), (6, 6)), free_blocks, (1, 2, 6), 12, ((0, 1),))

    def test_fewest_among_all_stands_with_just_these_cells(self):
        for chain, pool in (((1, 2, 4), 8), ((1, 2, 6), 6), ((1, 3), 6)):
            stands = stands_by_cells(chain, pool)
            fewest = {}
            for stand in stands:
                cells = frozenset(cells_of(stand))
                if len(stand) < len(fewest.get(cells, stand + ((0, 1),))):
                    fewest[cells] = stand
            for stand in stands:
                free = frozenset(range(pool)) - cells_of(stand)
                self.assertEqual(free_blocks(chain, pool, stand), fewest[free])


class CellByCell(Case):
    """All STANDS of small POOLS, against what their cells say."""

    def test_all(self):
        for chain, pool in SMALL:
            for stand in stands_by_cells(chain, pool):
                with self.subTest(chain=chain, pool=pool, stand=stand):
                    self.check_cells(chain, pool, stand)
                    for size in chain:
                        self.check_places(pool, stand, size)

    def check_cells(self, chain, pool, stand):
        used = cells_of(stand)
        self.assertTrue(is_stand(chain, pool, stand))
        self.assertFalse(pool < 64 and is_stand(chain, pool, (*stand, (pool, 1))))
        self.assertEqual(live(stand), len(used))
        self.assertEqual(last_end(stand), max(used, default=-1) + 1)
        told = holes(pool, stand)
        self.assertEqual(cells_of(told), set(range(pool)) - used)
        self.assertEqual(list(told), sorted(told))
        for (first, length), (after, _) in zip(told, told[1:]):
            self.assertLess(first + length, after)
        for cell in range(-2, pool + 3):
            owner = [block for block in stand if cell in cells_of([block])]
            self.assertEqual(block_at(stand, cell), owner[0] if owner else None)
        fits = [size for size in chain if free_by_cells(pool, stand, size)]
        self.assertEqual(greatest_fit(chain, pool, stand), max(fits, default=None))

    def check_places(self, pool, stand, size):
        free = free_by_cells(pool, stand, size)
        self.assertEqual(how_many_places(pool, stand, size), len(free))
        self.assertEqual([nth_place(pool, stand, size, at) for at in range(len(free))], free)
        for number in (-1, len(free)):
            with self.assertRaises(NoNumber):
                nth_place(pool, stand, size, number)
        for first in range(-5, pool + 5):
            self.assertEqual(is_place(pool, stand, size, first), first in free)
            if first in free:
                more = put(pool, stand, first, size)
                self.assertEqual(more, tuple(sorted((*stand, (first, size)))))
                self.assertEqual(taken(more, first), stand)
            else:
                with self.assertRaises(NoPlace):
                    put(pool, stand, first, size)


class ManyBlocks(Case):
    def test_a_stand_of_256_blocks_in_a_great_pool(self):
        step = GREAT // 256 // 64 * 64
        pool = 256 * step
        stand = tuple((number * step, 64) for number in range(256))
        self.tells(pool // 64 - 256, how_many_places, pool, stand, 64)
        self.tells(pool - 256 * 64, how_many_places, pool, stand, 1)
        self.tells(tuple((first + 64, step - 64) for first, _ in stand), holes, pool, stand)
        self.tells(pool - 64, nth_place, pool, stand, 64, pool // 64 - 257)
        self.tells(64, greatest_fit, (1, 64), pool, stand)
        self.tells(256 * 64, live, stand)
        self.tells(((64, 256),), sizes_of, stand)


if __name__ == "__main__":
    unittest.main()
