"""The bound [8]."""

import fractions
import itertools
import math
import unittest

from lentblocks.bound import (
    budget_for,
    factor,
    full_stand,
    is_even,
    is_full_stand,
    least_pool,
    lines,
    over_lines,
    pool_bounds,
    slot_weights,
    unit,
)
from lentblocks.chains import all_chains
from lentblocks.errors import NoNumber, NoSize
from lentblocks.first import first_place
from lentblocks.stands import put, taken
from tests.cells import THINGS, cells_of, free_by_cells, stands_by_cells
from tests.helper import Case

CHAIN = (1, 2, 4)
GREAT = 10 ** 30
CHAINS = tuple(chain for greatest in range(1, 65) for chain in all_chains(greatest))


def bar_of(chain, budget):
    """The bar as a sum over the ratios, by fractions."""
    rates = [high // low for low, high in zip(chain, chain[1:])]
    return budget + sum(budget * (1 - fractions.Fraction(1, rate)) for rate in rates)


class Units(Case):
    def test_units(self):
        for chain, told in (
            ((1,), 1), ((1, 2), 4), ((1, 3), 9), ((1, 2, 4), 8), ((1, 2, 6), 36), ((1, 4), 16),
            ((1, 64), 4096), ((1, 2, 4, 8, 16, 64), 256), ((1, 5, 10, 30), 900),
        ):
            self.tells(told, unit, chain)

    def test_all_chains(self):
        for chain in CHAINS:
            rates = [high // low for low, high in zip(chain, chain[1:])]
            step = chain[-1] * math.lcm(*rates)
            self.assertEqual(unit(chain), step)
            self.assertEqual(lines(chain, 3 * step)[-1], bar_of(chain, 3 * step))
            part = bar_of(chain, fractions.Fraction(1))
            self.assertEqual(factor(chain), (part.numerator, part.denominator))
            self.assertEqual(least_pool(chain, step) % chain[-1], 0)

    def test_is_even(self):
        for budget in (0, 8, 24, 8 * GREAT):
            self.tells(True, is_even, CHAIN, budget)
        for budget in (1, 4, 7, 9, 12, GREAT + 1):
            self.tells(False, is_even, CHAIN, budget)
        for budget in (0, 1, 13, GREAT + 1):
            self.tells(True, is_even, (1,), budget)

    def test_lines(self):
        for chain, budget, told in (
            ((1,), 0, (0,)), ((1,), 5, (5,)), ((1,), GREAT, (GREAT,)),
            (CHAIN, 0, (0, 0, 0)), (CHAIN, 16, (16, 24, 32)), ((1, 2, 6), 36, (36, 54, 78)),
            ((1, 64), 4096, (4096, 8128)), (CHAIN, 8 * GREAT, (8 * GREAT, 12 * GREAT, 16 * GREAT)),
        ):
            self.tells(told, lines, chain, budget)
            self.tells(told[-1], least_pool, chain, budget)

    def test_factor(self):
        for chain, told in (
            ((1,), (1, 1)), ((1, 2), (3, 2)), ((1, 2, 4), (2, 1)), ((1, 4), (7, 4)),
            ((1, 3, 6), (13, 6)), ((1, 64), (127, 64)), ((1, 2, 4, 8, 16, 64), (15, 4)),
        ):
            self.tells(told, factor, chain)

    def test_not_even(self):
        for chain, budget in ((CHAIN, 1), (CHAIN, 12), ((1, 2), 6), ((1, 64), GREAT + 1)):
            for function in (lines, least_pool):
                self.refuses(NoNumber, {"number": budget}, function, chain, budget)
            self.refuses(NoNumber, {"number": budget}, over_lines, chain, budget, ())
            for size in (1, 3, -1):
                for function in (slot_weights, full_stand):
                    self.refuses(NoNumber, {"number": budget}, function, chain, budget, size)
                self.refuses(
                    NoNumber, {"number": budget}, is_full_stand, chain, budget, size, None
                )

    def test_no_size(self):
        for chain, size in (
            (CHAIN, 3), (CHAIN, 0), (CHAIN, -1), (CHAIN, 8), (CHAIN, GREAT), ((1,), 2),
        ):
            for function in (slot_weights, full_stand):
                self.refuses(NoSize, {"size": size}, function, chain, 8, size)
                self.refuses(NoSize, {"size": size}, function, chain, 0, size)
            self.refuses(NoSize, {"size": size}, is_full_stand, chain, 8, size, None)


class Bounds(Case):
    def test_pool_bounds(self):
        for chain, budget, told in (
            (CHAIN, 0, (0, 0)), (CHAIN, 1, (0, 16)), (CHAIN, 7, (0, 16)), (CHAIN, 8, (16, 16)),
            (CHAIN, 9, (16, 32)), ((1,), 7, (7, 7)), ((1, 2), 6, (6, 12)),
            (CHAIN, 8 * GREAT + 1, (16 * GREAT, 16 * GREAT + 16)),
        ):
            self.tells(told, pool_bounds, chain, budget)

    def test_budget_for(self):
        for chain, pool, told in (
            (CHAIN, 0, 0), (CHAIN, 12, 0), (CHAIN, 16, 8), (CHAIN, 28, 8), (CHAIN, 32, 16),
            ((1,), 7, 7), ((1,), 0, 0), ((1, 4), 24, 0), ((1, 4), 28, 16), ((1, 2), 10, 4),
            (CHAIN, 16 * GREAT, 8 * GREAT), (CHAIN, 16 * GREAT - 4, 8 * GREAT - 8),
        ):
            self.tells(told, budget_for, chain, pool)

    def test_budget_for_is_the_greatest(self):
        for chain in CHAINS[::7]:
            for pool in range(0, 40 * chain[-1], chain[-1]):
                budget = budget_for(chain, pool)
                self.assertLessEqual(least_pool(chain, budget), pool)
                self.assertGreater(least_pool(chain, budget + unit(chain)), pool)

    def test_over_lines(self):
        self.tells((), over_lines, CHAIN, 8, ())
        self.tells((), over_lines, CHAIN, 0, ())
        self.tells(((0, 1),), over_lines, CHAIN, 0, ((0, 1),))
        stand = ((7, 1), (8, 1), (10, 2), (12, 2), (14, 1), (16, 4))
        self.tells(((8, 1), (12, 2), (14, 1), (16, 4)), over_lines, CHAIN, 8, stand)
        self.tells((), over_lines, CHAIN, 8, ((7, 1), (10, 2), (12, 4)))
        self.tells(((GREAT, 1),), over_lines, (1,), GREAT, ((0, 1), (GREAT - 1, 1), (GREAT, 1)))

    def test_slot_weights(self):
        for chain, budget, size, told in (
            ((1,), 5, 1, ((5, 1),)), ((1,), 0, 1, ((0, 1),)),
            (CHAIN, 0, 4, ((0, 1), (0, 2), (0, 4))),
            ((1, 2, 6), 36, 6, ((6, 1), (3, 2), (4, 6))), ((1, 2, 6), 36, 2, ((18, 1), (9, 2))),
            ((1, 64), 4096, 64, ((64, 1), (63, 64))),
            (CHAIN, 8 * GREAT, 2, ((4 * GREAT, 1), (2 * GREAT, 2))),
        ):
            self.tells(told, slot_weights, chain, budget, size)

    def test_weights_come_to_the_budget(self):
        for chain in CHAINS:
            budget = 2 * unit(chain)
            for size in chain:
                weights = slot_weights(chain, budget, size)
                self.assertEqual([least for _, least in weights], [s for s in chain if s <= size])
                self.assertEqual(sum(many * least for many, least in weights), budget)
                at = chain.index(size)
                self.assertEqual(size * sum(many for many, _ in weights), lines(chain, budget)[at])


class FullStands(Case):
    def test_full_stand(self):
        for chain in CHAINS:
            for budget in (0, unit(chain), 2 * unit(chain)):
                if budget > 1000:
                    continue
                for size in chain:
                    stand = full_stand(chain, budget, size)
                    self.assertIsInstance(stand, tuple)
                    self.assertTrue(is_full_stand(chain, budget, size, stand))
                    self.assertTrue(self.full_by_cells(chain, budget, size, stand))
        self.assertEqual(full_stand(CHAIN, 0, 4), ())
        for size in CHAIN:
            told = self.outcome_of(full_stand, (CHAIN, 16, size))[1]
            self.tells(True, is_full_stand, CHAIN, 16, size, told)

    def full_by_cells(self, chain, budget, size, stand):
        told = lines(chain, budget)
        line = told[chain.index(size)]
        slots = [at for at in free_by_cells(told[-1], stand, size) if at + size <= line]
        above = [
            (at, own) for at, own in stand if at + own > told[chain.index(own)]
        ]
        return not slots and not above and len(cells_of(stand)) == budget

    def test_all_stands_of_small_pools(self):
        found = 0
        for chain, budget in (((1,), 3), ((1,), 0), ((1, 2), 4), ((1, 2), 0), ((1, 3), 9)):
            pool = least_pool(chain, budget)
            if pool > 9:
                continue
            for stand in stands_by_cells(chain, pool):
                for size in chain:
                    right = self.full_by_cells(chain, budget, size, stand)
                    self.assertEqual(is_full_stand(chain, budget, size, stand), right)
                    found += right
        self.assertGreater(found, 5)

    def test_guarantee_that_no_full_stand_has_less(self):
        pool = least_pool((1, 2), 4)
        for stand in stands_by_cells((1, 2), pool):
            line = lines((1, 2), 4)
            slots = [at for at in free_by_cells(pool, stand, 2) if at + 2 <= line[1]]
            if not slots and over_lines((1, 2), 4, stand) == ():
                self.assertGreaterEqual(len(cells_of(stand)), 4)

    def test_wrong_stands(self):
        right = ((0, 1), (4, 1), (8, 2), (12, 4))
        self.tells(True, is_full_stand, CHAIN, 8, 4, right)
        for thing in (
            right[:-1], right[1:], list(right), ((0, 1), (4, 1), (8, 2), [12, 4]),
            ((0, 1), (4, 1), (12, 4), (8, 2)), ((0, 2), (4, 1), (8, 2), (12, 4)),
            ((0, 1), (1, 1), (8, 2), (12, 4)),      # the slot of 4 is free
            ((0, 2), (4, 2), (8, 4)),               # a BLOCK above its LINE, the last slot free
            ((0, 1), (4, 1), (8, 2), (16, 4)),      # beyond the POOL
            ((0, True), (4, 1), (8, 2), (12, 4)), ((False, 1), (4, 1), (8, 2), (12, 4)),
            ((0, 1), (4, 1), (9, 1), (12, 4)), ((0, 1), (4, 1), (9, 1), (10, 1), (12, 4)),
            ((0, 4), (4, 4)), (), tuple((at, 1) for at in range(8)), tuple((0, 1) for _ in "ab"),
            tuple((at, 1) for at in range(3000)),
        ):
            self.tells(False, is_full_stand, CHAIN, 8, 4, thing)
        self.tells(True, is_full_stand, CHAIN, 8, 1, tuple((at, 1) for at in range(8)))
        self.tells(False, is_full_stand, CHAIN, 8, 1, ((0, 4), (4, 2), (6, 1), (8, 1)))
        self.tells(True, is_full_stand, CHAIN, 8, 1, ((0, 4), (4, 2), (6, 1), (7, 1)))

    def test_other_things(self):
        for thing in THINGS:
            self.tells(False, is_full_stand, CHAIN, 8, 4, thing)
            self.tells(False, is_full_stand, CHAIN, 8, 4, (thing,))
        self.tells(True, is_full_stand, CHAIN, 0, 4, ())
        self.tells(True, is_full_stand, (1,), 0, 1, ())
        self.tells(False, is_full_stand, CHAIN, 0, 4, ((0, 1),))
        self.tells(False, is_full_stand, CHAIN, 0, 4, [])


class Guarantees(unittest.TestCase):
    """(a) of the overview, by all STANDS to which first place comes."""

    def reached(self, chain, pool, budget):
        """All STANDS to which first place comes; None if an ask is refused."""
        done = {()}
        queue = [()]
        while queue:
            stand = queue.pop()
            after = [taken(stand, first) for first, _ in stand]
            for size in chain:
                if sum(own for _, own in stand) + size <= budget:
                    first = first_place(pool, stand, size)
                    if first is None:
                        return None
                    after.append(put(pool, stand, first, size))
            for more in after:
                if more not in done:
                    done.add(more)
                    queue.append(more)
        return done

    def test_first_place_needs_just_the_bar(self):
        for chain, budget in (((1,), 3), ((1, 2), 4), ((1, 2), 8), ((1, 3), 9), ((1, 2, 4), 8)):
            bar = least_pool(chain, budget)
            stands = self.reached(chain, bar, budget)
            self.assertIsNotNone(stands)
            for stand in stands:
                self.assertEqual(over_lines(chain, budget, stand), ())
            self.assertIsNone(self.reached(chain, bar - chain[-1], budget))

    def test_pool_bounds_of_first_place(self):
        for chain, budget in itertools.product(((1, 2),), range(8)):
            low, high = pool_bounds(chain, budget)
            least = low
            while self.reached(chain, least, budget) is None:
                least += chain[-1]
            self.assertLessEqual(least, high)
            if low:
                self.assertIsNone(self.reached(chain, low - chain[-1], budget))


if __name__ == "__main__":
    unittest.main()
