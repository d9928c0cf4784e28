"""Moving [12]."""

import collections
import itertools
import unittest

from lentblocks.errors import NoSize
from lentblocks.moving import (
    best_moves,
    can_be_met,
    fewest_moved,
    fits,
    is_best_moves,
    is_laid,
    is_moves,
    laid,
    least_lived,
)
from tests.cells import THINGS, cells_of, stands_by_cells
from tests.helper import Case

CHAIN = (1, 2, 4)
STAND = ((0, 1), (2, 1), (4, 2), (8, 1))
GREAT = 10 ** 30
FAR = ((0, 1), (GREAT - 8, 4), (GREAT - 2, 1))
WITH_SIZES = (fits, laid, can_be_met, fewest_moved, best_moves)
WITH_THING = (is_laid, is_moves, is_best_moves)
WISHES = ((), (1,), (2,), (4,), (1, 1), (1, 2), (2, 1), (2, 2), (4, 1), (1, 4), (2, 4), (4, 4),
          (1, 2, 1), (2, 1, 2), (1, 1, 1, 1), (2, 2, 2), (1, 4, 2))


def live(blocks):
    return sum(size for _, size in blocks)


def sizes_in(blocks):
    return tuple(sorted(size for _, size in blocks))


class Sums:
    """All STANDS of a POOL by their sizes."""

    def __init__(self, chain, pool):
        self.stands = stands_by_cells(chain, pool)
        self.by_sizes = collections.defaultdict(list)
        for stand in self.stands:
            self.by_sizes[sizes_in(stand)].append(set(stand))

    def goals(self, stand, wishes):
        return self.by_sizes[tuple(sorted(sizes_in(stand) + wishes))]

    def can_fit(self, stand, wishes):
        return any(goal >= set(stand) for goal in self.goals(stand, wishes))

    def fewest(self, stand, wishes):
        """The least that is moved to come to a STAND of all these sizes."""
        own = set(stand)
        moved = [live(own - goal) for goal in self.goals(stand, wishes)]
        return min(moved, default=None)


class Wrong(Case):
    def test_no_size(self):
        for sizes, size in (
            ((3,), 3), ((1, 3), 3), ((0,), 0), ((1, 0, 3), 0), ((4, 8, 3), 8), ((64,), 64),
            ((GREAT,), GREAT), ((2, 3, GREAT), 3), ((100, 1), 100),
        ):
            for function in WITH_SIZES:
                self.refuses(NoSize, {"size": size}, function, CHAIN, 12, STAND, sizes)
            for function in WITH_THING:
                for thing in (None, ((), ()), ()):
                    self.refuses(NoSize, {"size": size}, function, CHAIN, 12, STAND, sizes, thing)
        self.refuses(NoSize, {"size": 2}, fits, (1,), 0, (), (2,))
        for size in (0, 3, -1, -4, 8, GREAT):
            self.refuses(NoSize, {"size": size}, least_lived, CHAIN, 12, STAND, size)
            self.refuses(NoSize, {"size": size}, least_lived, CHAIN, 0, (), size)


class Fits(Case):
    def test_edges(self):
        for pool, stand in ((0, ()), (12, STAND), (4, ((0, 4),)), (4, ())):
            self.tells(True, fits, CHAIN, pool, stand, ())
            self.tells((), laid, CHAIN, pool, stand, ())
            self.tells(True, is_laid, CHAIN, pool, stand, (), ())
            self.tells(True, can_be_met, CHAIN, pool, stand, ())
        for pool, stand in ((0, ()), (4, ((0, 4),)), (4, ((0, 1), (1, 1), (2, 2)))):
            self.tells(False, fits, CHAIN, pool, stand, (1,))
            self.tells(None, laid, CHAIN, pool, stand, (1,))
            self.tells(False, can_be_met, CHAIN, pool, stand, (1,))
        self.tells(True, fits, (1,), 64, (), (1,) * 64)
        self.tells(tuple(range(64)), laid, (1,), 64, (), (1,) * 64)

    def test_great_pools(self):
        wishes = (1, 4, 2, 1, 2, 4) * 10
        self.tells(True, fits, CHAIN, GREAT, FAR, wishes)
        places = laid(CHAIN, GREAT, FAR, wishes)
        self.tells(True, is_laid, CHAIN, GREAT, FAR, wishes, places)
        self.tells(True, is_laid, CHAIN, GREAT, FAR, (4, 1), (GREAT - 12, GREAT - 1))
        self.tells(False, is_laid, CHAIN, GREAT, FAR, (4, 1), (GREAT - 12, GREAT))
        self.tells(True, can_be_met, CHAIN, GREAT, FAR, (4,) * 64)

    def test_in_the_order_of_the_wishes(self):
        self.tells((0, 1), laid, (1, 2), 2, (), (1, 1))
        for sizes in itertools.permutations((1, 1, 2, 4)):
            places = laid(CHAIN, 8, (), sizes)
            self.assertTrue(is_laid(CHAIN, 8, (), sizes, places))
            for place, size in zip(places, sizes):
                self.assertEqual(place % size, 0)
            self.assertEqual(len(cells_of(list(zip(places, sizes)))), 8)

    def test_is_laid(self):
        for sizes, thing, told in (
            ((2, 1), (6, 1), True), ((2, 1), (10, 11), False), ((2, 1), (10, 9), True),
            ((2, 1), (6, 6), False), ((2, 1), (6, 7), False), ((1, 2), (6, 1), False),
            ((1, 2), (1, 6), True), ((1, 1), (1, 1), False), ((2,), (0,), False),
            ((2,), (3,), False), ((2,), (12,), False), ((2,), (-2,), False), ((1,), (-1,), False),
            ((2,), (), False), ((2,), (6, 10), False), ((2,), [6], False), ((1,), (True,), False),
            ((1,), (1,), True), ((2,), (6, 0), False), ((2,), ("6",), False), ((2,), None, False),
            ((2,), 6, False), ((2,), ((6,),), False), ((2,), ((6, 2),), False), ((), (0,), False),
            ((1,), (False,), False), ((1, 1), (1, None), False), ((1,), (1,) * 3000, False),
            ((2,), (GREAT,), False), ((1,), (4,), False), ((1,), (5,), False),
        ):
            self.tells(told, is_laid, CHAIN, 12, STAND, sizes, thing)
        for thing in THINGS:
            self.tells(thing == (), is_laid, CHAIN, 12, STAND, (), thing)
            self.tells(False, is_laid, CHAIN, 12, STAND, (2, 1), thing)
            right = type(thing) is int and thing == 1
            self.tells(right, is_laid, CHAIN, 12, STAND, (2, 1), (6, thing))

    def test_all_stands_of_small_pools(self):
        for chain, pool, step in (((1,), 3, 1), ((1, 2), 4, 1), ((1, 2, 4), 8, 3), ((1, 2, 4), 4, 1)):
            sums = Sums(chain, pool)
            for stand in sums.stands[::step]:
                for sizes in WISHES:
                    if max(sizes, default=1) > chain[-1]:
                        continue
                    told = sums.can_fit(stand, sizes)
                    self.assertEqual(fits(chain, pool, stand, sizes), told)
                    places = laid(chain, pool, stand, sizes)
                    self.assertEqual(places is not None, told)
                    if told:
                        self.assertTrue(is_laid(chain, pool, stand, sizes, places))
                    met = bool(sums.goals(stand, sizes))
                    self.assertEqual(can_be_met(chain, pool, stand, sizes), met)

    def test_all_places_of_two_wishes(self):
        stand = ((1, 1), (4, 2))
        for sizes in ((1, 2), (2, 1), (2, 2), (1, 1)):
            for places in itertools.product(range(-1, 9), repeat=2):
                blocks = [*stand, *zip(places, sizes)]
                right = (
                    all(at % size == 0 and 0 <= at <= 8 - size for at, size in blocks)
                    and len(cells_of(blocks)) == live(blocks)
                )
                self.assertEqual(is_laid((1, 2), 8, stand, sizes, places), right)


class Moves(Case):
    def test_edges(self):
        for pool, stand in ((0, ()), (12, STAND), (4, ((0, 4),))):
            self.tells(0, fewest_moved, CHAIN, pool, stand, ())
            self.tells(((), ()), best_moves, CHAIN, pool, stand, ())
            self.tells(True, is_moves, CHAIN, pool, stand, (), ((), ()))
            self.tells(True, is_best_moves, CHAIN, pool, stand, (), ((), ()))
        for pool, stand in ((0, ()), (4, ((0, 4),)), (4, ((0, 1), (1, 1), (2, 2)))):
            self.tells(None, fewest_moved, CHAIN, pool, stand, (1,))
            self.tells(None, best_moves, CHAIN, pool, stand, (1,))
            self.tells(False, is_moves, CHAIN, pool, stand, (1,), ((), (0,)))
            self.tells(False, is_best_moves, CHAIN, pool, stand, (1,), ((), (0,)))
        # The greatest wish that can be met at all.
        self.tells(2, fewest_moved, CHAIN, 8, ((0, 1), (2, 1), (4, 2)), (4,))
        self.tells(None, fewest_moved, CHAIN, 8, ((0, 1), (2, 1), (4, 2), (6, 1)), (4,))

    def test_moved_in_fewest_cells_not_in_fewest_blocks(self):
        chain, stand = (1, 2, 4, 8), ((0, 4), (8, 1), (9, 1))
        self.tells(2, fewest_moved, chain, 16, stand, (8,))
        self.tells(True, is_moves, chain, 16, stand, (8,), ((((0, 4), 12),), (0,)))
        self.tells(False, is_best_moves, chain, 16, stand, (8,), ((((0, 4), 12),), (0,)))
        # Two ones are moved, and the two beside stays.
        self.tells(2, fewest_moved, CHAIN, 8, ((0, 1), (3, 1), (5, 1), (6, 1)), (4,))
        self.tells(((((0, 1), 2),), (0,)), best_moves, (1, 2), 4, ((0, 1), (3, 1)), (2,))

    def test_great_pools(self):
        self.tells(0, fewest_moved, CHAIN, GREAT, FAR, (4,) * 64)
        self.tells(True, is_best_moves, CHAIN, GREAT, FAR, (1,), ((), (GREAT - 1,)))
        self.tells(True, is_moves, CHAIN, GREAT, FAR, (4,), ((((0, 1), 7),), (0,)))
        self.tells(False, is_best_moves, CHAIN, GREAT, FAR, (4,), ((((0, 1), 7),), (0,)))
        self.tells(False, is_moves, CHAIN, GREAT, FAR, (4,), ((((0, 1), GREAT),), (0,)))
        self.tells(((), (4,)), best_moves, CHAIN, GREAT, FAR, (4,))

    def test_is_moves(self):
        for moves, places, told in (
            ((((8, 1), 1),), (8,), True), ((((8, 1), 10),), (8,), False),
            ((((8, 1), 8),), (8,), False), ((), (8,), False), ((((4, 2), 6),), (8,), False),
            ((((0, 1), 9), ((2, 1), 10)), (0,), True), ((((2, 1), 10), ((0, 1), 9)), (0,), False),
            ((((0, 1), 9), ((0, 1), 10)), (0,), False), ((((0, 1), 9), ((2, 1), 9)), (0,), False),
            ((((0, 1), 9), ((0, 1), 9)), (0,), False), ((((4, 2), 10), ((8, 1), 1)), (4,), True),
            ((((4, 2), 10), ((8, 1), 1)), (8,), False), ((((8, 2), 10),), (8,), False),
            ((((9, 1), 10),), (8,), False), ((((8, 1), 1), ((9, 1), 3)), (8,), False),
            ((((8, 1), 1), ((8, 1), 3)), (8,), False), ((((8, 1), 3), ((8, 1), 1)), (8,), False),
            ((((8, 1), -1),), (8,), False), ((((8, 1), 12),), (8,), False),
            ((((8, 1), 4),), (8,), False), ((((4, 2), 1), ((8, 1), 6)), (8,), False),
            ((((8, 1), 1),), (), False), ((((8, 1), 1),), (8, 8), False),
            ((((8, 1), 1),), (9,), False), ((((8, 1), 1),), (12,), False),
            ((((0, 1), 2), ((2, 1), 0), ((8, 1), 1)), (8,), True),
            ((((8, 1), True),), (8,), False), (((([8, 1]), 1),), (8,), False),
            (([(8, 1), 1],), (8,), False), ([((8, 1), 1)], (8,), False),
            ((((8, 1), 1),), [8], False), ((((8, True), 1),), (8,), False),
            ((((False, 1), 9), ((2, 1), 10)), (0,), False), ((((8, 1), 1, 0),), (8,), False),
            (((8, 1, 1),), (8,), False), (((8, 1), 1), (8,), False), ((((8, 1),),), (8,), False),
            ((((8, 1), "1"),), (8,), False), ((((8, 1), None),), (8,), False),
            ((((0, 1), 9), ((2, 1), 10)), (False,), False), ((((8, 1), 1),), ("8",), False),
            ((((8, 1), 1),), 8, False), (((8, 1), (1,)), (8,), False), ("", (8,), False),
            ((((8, 1, 0), 1),), (8,), False), ((((), 1),), (8,), False),
            (tuple(((8, 1), at) for at in range(3000)), (8,), False),
        ):
            self.tells(told, is_moves, CHAIN, 12, STAND, (4,), (moves, places))
        right = ((((8, 1), 1),), (8,))
        for thing in (
            list(right), right[0], (*right, ()), right[:1], (right,), right[::-1], (right, right),
        ):
            self.tells(False, is_moves, CHAIN, 12, STAND, (4,), thing)
            self.tells(False, is_best_moves, CHAIN, 12, STAND, (4,), thing)

    def test_other_things(self):
        for thing in THINGS:
            cell = type(thing) is int and thing in (1, 7)
            for function in (is_moves, is_best_moves):
                self.tells(False, function, CHAIN, 12, STAND, (4,), thing)
                self.tells(False, function, CHAIN, 12, STAND, (4,), (thing, (8,)))
                self.tells(False, function, CHAIN, 12, STAND, (4,), ((thing,), (8,)))
                self.tells(False, function, CHAIN, 12, STAND, (4,), (((thing, 1),), (8,)))
                self.tells(cell, function, CHAIN, 12, STAND, (4,), ((((8, 1), thing),), (8,)))
                self.tells(False, function, CHAIN, 12, STAND, (4,), ((((8, 1), 1),), thing))
                self.tells(False, function, CHAIN, 12, STAND, (4,), ((((8, 1), 1),), (thing,)))

    def test_is_best_moves(self):
        self.tells(True, is_best_moves, CHAIN, 12, STAND, (4,), ((((8, 1), 1),), (8,)))
        self.tells(True, is_best_moves, CHAIN, 12, STAND, (4,), ((((8, 1), 3),), (8,)))
        self.tells(True, is_best_moves, CHAIN, 12, STAND, (4,), ((((8, 1), 6),), (8,)))
        self.tells(False, is_best_moves, CHAIN, 12, STAND, (4,), ((((4, 2), 10),), (4,)))
        self.tells(False, is_best_moves, CHAIN, 12, STAND, (4,),
                   ((((0, 1), 9), ((2, 1), 10)), (0,)))
        self.tells(False, is_best_moves, CHAIN, 12, STAND, (2,), ((((8, 1), 1),), (8,)))
        self.tells(True, is_best_moves, CHAIN, 12, STAND, (2,), ((), (6,)))
        self.tells(False, is_best_moves, CHAIN, 12, STAND, (4, 4), ((((8, 1), 1),), (8, 0)))

    def test_against_all_stands(self):
        for chain, pool, step in (((1,), 3, 1), ((1, 2), 6, 3), ((1, 2, 4), 8, 7), ((1, 3), 6, 1),
                                  ((1, 2, 6), 6, 3)):
            sums = Sums(chain, pool)
            for stand in sums.stands[::step]:
                for sizes in WISHES:
                    if all(size in chain for size in sizes):
                        self.check(sums, chain, pool, stand, sizes)

    def check(self, sums, chain, pool, stand, sizes):
        fewest = sums.fewest(stand, sizes)
        self.assertEqual(fewest_moved(chain, pool, stand, sizes), fewest)
        best = best_moves(chain, pool, stand, sizes)
        self.assertEqual(can_be_met(chain, pool, stand, sizes), fewest is not None)
        if fewest is None:
            self.assertIsNone(best)
            return
        self.assertTrue(is_moves(chain, pool, stand, sizes, best))
        self.assertTrue(is_best_moves(chain, pool, stand, sizes, best))
        moves, places = best
        self.assertEqual(live([block for block, _ in moves]), fewest)
        if len(sizes) == 1:
            self.assertGreaterEqual(fewest, least_lived(chain, pool, stand, sizes[0]) or 0)
        goal = [block for block in stand if block not in dict(moves)]
        goal += [(at, size) for (_, size), at in moves] + list(zip(places, sizes))
        self.assertIn(set(goal), sums.goals(stand, sizes))

    def test_all_moves_of_a_small_stand(self):
        stand, pool, found = ((0, 1), (2, 2)), 6, 0
        for first, second, place in itertools.product(
            (None, *range(-1, 7)), (None, 0, 2, 3, 4), range(-1, 7)
        ):
            moves = tuple(
                (block, at) for block, at in zip(stand, (first, second)) if at is not None)
            goal = [block for block in stand if block not in dict(moves)]
            goal += [(at, size) for (_, size), at in moves] + [(place, 2)]
            right = (
                all(at % size == 0 and 0 <= at <= pool - size for at, size in goal)
                and len(cells_of(goal)) == 5 and all(block[0] != at for block, at in moves)
            )
            found += right
            self.assertEqual(is_moves((1, 2), pool, stand, (2,), (moves, (place,))), right)
            cost = live([block for block, _ in moves])
            self.assertEqual(
                is_best_moves((1, 2), pool, stand, (2,), (moves, (place,))), right and cost == 0)
        self.assertGreater(found, 5)

    def test_called_in_all_ways(self):
        for sizes in ((), (4,), (4, 2), (2, 2, 2), (1, 4), (4, 4)):
            told = self.outcome_of(best_moves, (CHAIN, 12, STAND, sizes))[1]
            fewest = self.outcome_of(fewest_moved, (CHAIN, 12, STAND, sizes))[1]
            self.assertEqual(told is None, fewest is None)
            self.tells(told is not None, is_moves, CHAIN, 12, STAND, sizes, told)
            self.tells(told is not None, is_best_moves, CHAIN, 12, STAND, sizes, told)
            self.tells(sizes in ((), (2, 2)), fits, CHAIN, 12, STAND, sizes)
            self.outcome_of(laid, (CHAIN, 12, STAND, sizes))

    def test_twelve_blocks(self):
        chain = (1, 2, 4, 8, 16, 32)
        stand = tuple((4 * at, 1) for at in range(12))
        for sizes, fewest in (((8, 8, 8), 2), ((32,), 4), ((32, 16, 4), 9), ((1,) * 52, 0)):
            self.assertEqual(fewest_moved(chain, 64, stand, sizes), fewest)
            told = best_moves(chain, 64, stand, sizes)
            self.assertTrue(is_best_moves(chain, 64, stand, sizes, told))


class LeastLived(Case):
    def test_edges(self):
        self.tells(None, least_lived, CHAIN, 0, (), 1)
        self.tells(None, least_lived, CHAIN, 4, ((0, 4),), 1)
        self.tells(None, least_lived, CHAIN, 4, ((0, 4),), 2)
        self.tells(4, least_lived, CHAIN, 4, ((0, 4),), 4)
        self.tells(0, least_lived, CHAIN, 4, (), 4)
        self.tells(1, least_lived, (1,), 1, ((0, 1),), 1)
        self.tells(3, least_lived, CHAIN, 8, ((0, 4), (4, 2), (7, 1)), 4)
        self.tells(1, least_lived, CHAIN, 8, ((0, 4), (4, 2), (7, 1)), 2)
        self.tells(2, least_lived, CHAIN, 8, ((0, 4), (4, 2), (6, 2)), 2)
        self.tells(0, least_lived, (1, 64), 960, tuple((64 * at, 1) for at in range(14)), 64)
        self.tells(1, least_lived, (1, 64), 960, tuple((64 * at, 1) for at in range(15)), 64)

    def test_all_stands_of_small_pools(self):
        for chain, pool in (((1, 2, 4), 8), ((1, 3, 6), 6), ((1, 2), 6), ((1,), 3)):
            for stand in stands_by_cells(chain, pool):
                for size in chain:
                    lived = []
                    for low in range(0, pool, size):
                        cells = set(range(low, low + size))
                        inner = [block for block in stand if cells & cells_of([block])]
                        if all(own <= size for _, own in inner):
                            lived.append(live(inner))
                    told = min(lived, default=None)
                    self.assertEqual(least_lived(chain, pool, stand, size), told)


if __name__ == "__main__":
    unittest.main()
