"""Wishes that are sure [14]."""

import functools
import itertools
import unittest

from lentblocks.errors import NoSize
from lentblocks.surely import (
    are_sure,
    is_refused_order,
    more_sure,
    refused_order,
    short_sizes,
    sure_cells,
)
from tests.cells import THINGS, cells_of, free_by_cells, stands_by_cells
from tests.helper import Case

CHAIN = (1, 2, 4)
STAND = ((1, 1), (4, 2))
GREAT = 10 ** 30
FAR = ((0, 1), (GREAT - 8, 4), (GREAT - 2, 1))
POOLS = (((1,), 3), ((1, 2), 6), ((1, 2, 4), 8), ((1, 3), 6), ((1, 2, 6), 6), ((1, 4), 8))


def without(sizes, size):
    """The wishes, ascending, without one of this size."""
    left = sorted(sizes)
    left.remove(size)
    return tuple(left)


@functools.lru_cache(maxsize=None)
def can_be_refused(pool, cells, sizes):
    """Whether some order and some choice of slots ends with a wish that is refused."""
    for size in sorted(set(sizes)):
        slots = [
            set(range(low, low + size)) for low in range(0, pool, size)
            if not cells & set(range(low, low + size))
        ]
        if not slots:
            return True
        left = without(sizes, size)
        if any(can_be_refused(pool, cells | frozenset(slot), left) for slot in slots):
            return True
    return False


def sure_by_cells(pool, stand, sizes):
    return not can_be_refused(pool, frozenset(cells_of(stand)), tuple(sorted(sizes)))


def is_order_by_cells(pool, stand, sizes, blocks, size):
    """Whether the BLOCKS serve wishes one behind another, and then the size is refused."""
    left = list(sizes)
    used = list(stand)
    for first, own in blocks:
        if own not in left or first not in free_by_cells(pool, used, own):
            return False
        left.remove(own)
        used.append((first, own))
    return size in left and free_by_cells(pool, used, size) == []


def lots(chain, most):
    """All tuples of sizes, ascending, that come to at most so many cells."""
    found = []
    for many in range(most + 1):
        found += [
            sizes for sizes in itertools.combinations_with_replacement(chain, many)
            if sum(sizes) <= most
        ]
    return found


class Wrong(Case):
    def test_no_size(self):
        for sizes, size in (
            ((3,), 3), ((1, 3, 8), 3), ((0,), 0), ((4, 4, 4, 4, 8), 8), ((1, 0, 3), 0),
            ((2, GREAT), GREAT), ((100, 1), 100), ((64, 3), 64),
        ):
            for function in (are_sure, short_sizes, refused_order):
                self.refuses(NoSize, {"size": size}, function, CHAIN, 12, STAND, sizes)
            for thing in (None, ((), 4), (((0, 1),), 4)):
                self.refuses(
                    NoSize, {"size": size}, is_refused_order, CHAIN, 12, STAND, sizes, thing)
            for own in (1, 4, 5):
                self.refuses(NoSize, {"size": size}, more_sure, CHAIN, 12, STAND, sizes, own)
        self.refuses(NoSize, {"size": 2}, are_sure, (1,), 0, (), (2,))

    def test_more_sure_of_no_size(self):
        # It is asked ahead of None, and behind the wishes.
        for sizes in ((), (4,), (4, 4, 4), (4, 1)):
            for size in (0, 3, -1, 8, GREAT):
                self.refuses(NoSize, {"size": size}, more_sure, CHAIN, 12, STAND, sizes, size)


class Sure(Case):
    def test_edges(self):
        for pool, stand in ((0, ()), (12, STAND), (4, ((0, 4),)), (4, ())):
            self.tells(True, are_sure, CHAIN, pool, stand, ())
            self.tells((), short_sizes, CHAIN, pool, stand, ())
            self.tells(None, refused_order, CHAIN, pool, stand, ())
            self.tells(False, is_refused_order, CHAIN, pool, stand, (), ((), 1))
        for pool, stand in ((0, ()), (4, ((0, 4),)), (4, ((0, 1), (1, 1), (2, 2)))):
            self.tells(False, are_sure, CHAIN, pool, stand, (1,))
            self.tells((1,), short_sizes, CHAIN, pool, stand, (1,))
            self.tells(((), 1), refused_order, CHAIN, pool, stand, (1,))
            self.tells(True, is_refused_order, CHAIN, pool, stand, (1,), ((), 1))
            self.tells(0, more_sure, CHAIN, pool, stand, (), 1)
            self.tells(None, more_sure, CHAIN, pool, stand, (1,), 4)
            self.tells(0, sure_cells, CHAIN, pool, stand)
        self.tells(True, are_sure, (1,), 3, (), (1, 1, 1))
        self.tells(False, are_sure, (1,), 3, (), (1, 1, 1, 1))
        self.tells(3, more_sure, (1,), 3, (), (), 1)
        self.tells(3, sure_cells, (1,), 3, ())

    def test_only_sizes_among_the_wishes_are_short(self):
        # No slot of 4 is free, but none is wished.
        stand = ((0, 1), (4, 1))
        self.tells((), short_sizes, CHAIN, 8, stand, (1, 1))
        self.tells((2,), short_sizes, CHAIN, 8, stand, (2, 1, 1))
        self.tells((4,), short_sizes, CHAIN, 8, stand, (4,))
        self.tells((2, 4), short_sizes, CHAIN, 8, stand, (4, 2))
        self.tells((1, 2, 4), short_sizes, CHAIN, 8, stand, (4, 1, 2, 1))
        # One of 4 counts as two of 2 and as four of 1.
        self.tells((), short_sizes, CHAIN, 8, (), (4, 2))
        self.tells((4,), short_sizes, CHAIN, 8, (), (2, 4, 2))
        self.tells((2, 4), short_sizes, CHAIN, 8, (), (4, 2, 2, 2))
        self.tells((4,), short_sizes, CHAIN, 8, (), (4, 1, 1, 1, 1))
        self.tells((1, 4), short_sizes, CHAIN, 8, (), (4, 1, 1, 1, 1, 1))
        self.tells((1,), short_sizes, CHAIN, 8, (), (1,) * 9)

    def test_in_any_order(self):
        for sizes in ((1, 2, 4, 2), (4, 4, 1), (2, 2, 1), (1, 1, 4), (4, 2, 2)):
            told = are_sure(CHAIN, 12, STAND, sizes)
            for other in set(itertools.permutations(sizes)):
                self.tells(told, are_sure, CHAIN, 12, STAND, other)
                self.tells(short_sizes(CHAIN, 12, STAND, sizes), short_sizes, CHAIN, 12, STAND, other)
                self.tells(
                    more_sure(CHAIN, 12, STAND, sizes, 2), more_sure, CHAIN, 12, STAND, other, 2)
                order = self.outcome_of(refused_order, (CHAIN, 12, STAND, other))[1]
                self.assertEqual(order is None, told)
                self.tells(not told, is_refused_order, CHAIN, 12, STAND, other, order)

    def test_against_all_orders_and_slots(self):
        for chain, pool in POOLS:
            for stand in stands_by_cells(chain, pool)[::5]:
                for sizes in lots(chain, 6):
                    self.check(chain, pool, stand, sizes)

    def check(self, chain, pool, stand, sizes):
        told = sure_by_cells(pool, stand, sizes)
        self.assertEqual(are_sure(chain, pool, stand, sizes), told, (chain, pool, stand, sizes))
        self.assertEqual(short_sizes(chain, pool, stand, sizes) == (), told)
        order = refused_order(chain, pool, stand, sizes)
        self.assertEqual(order is None, told)
        if not told:
            self.assertTrue(is_order_by_cells(pool, stand, sizes, *order), (stand, sizes, order))
            self.assertTrue(is_refused_order(chain, pool, stand, sizes, order))

    def test_short_sizes_by_counting(self):
        for chain, pool in POOLS:
            for stand in stands_by_cells(chain, pool)[::7]:
                for sizes in lots(chain, 8):
                    short = tuple(
                        size for size in sorted(set(sizes))
                        if sum(own // size if own > size else 1 for own in sizes)
                        > len(free_by_cells(pool, stand, size))
                    )
                    self.assertEqual(short_sizes(chain, pool, stand, sizes), short)

    def test_great_pools(self):
        wishes = (1, 4, 2, 1, 4) * 51
        self.tells(True, are_sure, CHAIN, GREAT, FAR, wishes)
        self.tells(None, refused_order, CHAIN, GREAT, FAR, wishes)
        self.tells(False, is_refused_order, CHAIN, GREAT, FAR, wishes, (((4, 1),), 4))
        self.tells(GREAT // 4 - 3 - 255, more_sure, CHAIN, GREAT, FAR, wishes, 4)
        self.tells(GREAT - 258, more_sure, (1,), GREAT, ((0, 1), (GREAT - 1, 1)), (1,) * 256, 1)
        self.tells(GREAT // 4, sure_cells, CHAIN, GREAT, FAR)
        self.tells(GREAT, sure_cells, (1,), GREAT, ())

    def test_256_wishes_and_256_blocks(self):
        chain = (1, 2, 4, 8, 16, 32)
        stand = tuple((32 * at, 1) for at in range(255))
        for wishes in ((1,) * 255 + (32,), (32,) * 2, (16,) * 256, (2,) * 256, (1, 2, 4, 8) * 64):
            order = refused_order(chain, 8192, stand, wishes)
            if order is not None:
                self.assertTrue(is_refused_order(chain, 8192, stand, wishes, order))
                self.assertTrue(is_order_by_cells(8192, stand, wishes, *order))
            self.assertEqual(are_sure(chain, 8192, stand, wishes), order is None)
        self.assertIsNotNone(refused_order(chain, 8192, stand, (1,) * 255 + (32,)))
        self.assertIsNone(refused_order(chain, 8192, stand, (16,) * 256))


class MoreSure(Case):
    def test_by_trying(self):
        for chain, pool in POOLS:
            for stand in stands_by_cells(chain, pool)[::9]:
                for sizes in lots(chain, 4):
                    for size in chain:
                        many = None
                        while sure_by_cells(pool, stand, sizes + (size,) * (1 + (many or 0))):
                            many = 1 + (many or 0)
                        if many is None and sure_by_cells(pool, stand, sizes):
                            many = 0
                        self.assertEqual(
                            more_sure(chain, pool, stand, sizes, size), many,
                            (chain, pool, stand, sizes, size))

    def test_a_size_that_is_short_itself(self):
        # Nothing of 4 is free: none can be put to what is sure.
        stand = ((0, 1), (4, 1))
        self.tells(0, more_sure, CHAIN, 8, stand, (1,), 4)
        self.tells(0, more_sure, CHAIN, 8, stand, (1, 1), 4)
        self.tells(1, more_sure, CHAIN, 8, stand, (1,), 2)
        self.tells(5, more_sure, CHAIN, 8, stand, (1,), 1)
        self.tells(1, more_sure, CHAIN, 8, stand, (2,), 1)
        self.tells(0, more_sure, CHAIN, 8, stand, (1, 1, 1, 1, 1, 1), 2)
        self.tells(None, more_sure, CHAIN, 8, stand, (4,), 1)
        self.tells(None, more_sure, CHAIN, 8, stand, (2, 2, 2), 1)


class SureCells(Case):
    def test_by_trying(self):
        for chain, pool in POOLS:
            for stand in stands_by_cells(chain, pool)[::11]:
                cells = 0
                while all(
                    sure_by_cells(pool, stand, sizes) for sizes in lots(chain, cells + 1)
                ):
                    cells += 1
                self.assertEqual(sure_cells(chain, pool, stand), cells, (chain, pool, stand))

    def test_edges(self):
        self.tells(0, sure_cells, CHAIN, 0, ())
        # One ahead of a size that has no free slot: it is only asked by more cells.
        self.tells(3, sure_cells, CHAIN, 12, ((0, 1), (4, 1), (8, 1)))
        self.tells(1, sure_cells, CHAIN, 4, ((0, 1), (2, 1)))
        self.tells(1, sure_cells, (1, 2), 2, ((0, 1),))
        self.tells(2, sure_cells, (1, 2), 2, ())
        self.tells(1, sure_cells, (1, 64), 64, (*((at, 1) for at in range(62)), (63, 1)))
        self.tells(63, sure_cells, (1, 64), 64, ((63, 1),))


class IsRefusedOrder(Case):
    def test_of_two_sizes(self):
        for blocks, size, told in (
            (((11, 1),), 4, True), (((8, 1),), 4, True), (((0, 1),), 4, False), ((), 4, False),
            (((8, 4),), 1, False), (((8, 4),), 4, False), (((11, 1),), 1, False),
            (((10, 2),), 4, False), (((12, 1),), 4, False), (((-1, 1),), 4, False),
            (((11, 1), (10, 1)), 4, False), (((4, 1),), 4, False), (((11, 1),), 2, False),
            (((11, 1),), 3, False), (((11, True),), 4, False), (((11, 1),), "4", False),
            ([(11, 1)], 4, False), (([11, 1],), 4, False), (((11, 1, 0),), 4, False),
            (((11,),), 4, False), ((11, 1), 4, False), (((11, 1),) * 3000, 4, False),
            (((11, 1),), (4,), False), (((11, 1),), None, False), (((9, 3),), 4, False),
        ):
            self.tells(told, is_refused_order, CHAIN, 12, STAND, (4, 1), (blocks, size))
            self.tells(told, is_refused_order, CHAIN, 12, STAND, (1, 4), (blocks, size))
        right = (((11, 1),), 4)
        for thing in (
            list(right), right[:1], (*right, 0), (right,), right[::-1], right[0], (right, right),
        ):
            self.tells(False, is_refused_order, CHAIN, 12, STAND, (4, 1), thing)
        # The wish that is refused is another one than those that are served.
        self.tells(False, is_refused_order, CHAIN, 4, (), (4,), (((0, 4),), 4))
        self.tells(True, is_refused_order, CHAIN, 4, (), (4, 4), (((0, 4),), 4))
        self.tells(False, is_refused_order, CHAIN, 4, (), (4, 1), (((0, 4),), 4))
        self.tells(True, is_refused_order, CHAIN, 4, (), (4, 1), (((0, 4),), 1))
        self.tells(True, is_refused_order, (1,), 1, (), (1, 1), (((0, 1),), 1))
        self.tells(False, is_refused_order, (1,), 1, (), (1, 1), (((0, 1),), True))
        self.tells(False, is_refused_order, (1,), 1, (), (1, 1), (((False, 1),), 1))

    def test_more_served_than_wanted(self):
        sizes = (1, 1, 2, 4)
        self.tells(True, is_refused_order, CHAIN, 8, (), sizes, (((3, 1), (4, 2)), 4))
        self.tells(True, is_refused_order, CHAIN, 8, (), sizes, (((3, 1), (4, 2), (0, 1)), 4))
        self.tells(True, is_refused_order, CHAIN, 8, (), sizes, (((4, 2), (0, 1), (3, 1)), 4))
        self.tells(False, is_refused_order, CHAIN, 8, (), sizes, (((3, 1), (4, 2), (3, 1)), 4))
        self.tells(False, is_refused_order, CHAIN, 8, (), sizes, (((3, 1), (5, 2)), 4))
        self.tells(False, is_refused_order, CHAIN, 8, (), sizes, (((3, 1), (4, 2), (6, 2)), 4))
        self.tells(False, is_refused_order, CHAIN, 8, (), sizes, (((3, 1), (4, 1), (5, 1)), 4))
        self.tells(False, is_refused_order, CHAIN, 8, (), sizes, (((3, 1), (2, 1), (1, 1)), 4))

    def test_all_of_a_small_pool(self):
        stand, pool, found = ((1, 1),), 4, 0
        chosen = [(first, size) for size in (1, 2, 4) for first in range(-1, 5)]
        for sizes in ((1, 2), (2, 1, 1), (2, 2), (1, 1, 1, 1), (4, 1)):
            for many in range(4):
                for blocks in itertools.product(chosen, repeat=many):
                    for size in (1, 2, 4):
                        told = is_order_by_cells(pool, stand, sizes, blocks, size)
                        found += told
                        self.assertEqual(
                            is_refused_order((1, 2, 4), pool, stand, sizes, (blocks, size)), told)
        self.assertGreater(found, 20)

    def test_other_things(self):
        for thing in THINGS:
            self.tells(False, is_refused_order, CHAIN, 12, STAND, (4, 1), thing)
            self.tells(False, is_refused_order, CHAIN, 12, STAND, (4, 1), (thing, 4))
            self.tells(False, is_refused_order, CHAIN, 12, STAND, (4, 1), ((thing,), 4))
            self.tells(False, is_refused_order, CHAIN, 12, STAND, (4, 1), (((11, 1),), thing))
            self.tells(False, is_refused_order, CHAIN, 12, STAND, (4, 1), (((thing, 1),), 4))
            one = type(thing) is int and thing == 1
            self.tells(one, is_refused_order, CHAIN, 12, STAND, (4, 1), (((11, thing),), 4))


if __name__ == "__main__":
    unittest.main()
