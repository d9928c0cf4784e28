"""Several POOLS [16]."""

import itertools
import unittest

from lentblocks.bound import least_pool
from lentblocks.errors import NoNumber
from lentblocks.first import serves_first
from lentblocks.pools import (
    all_partings,
    best_parting,
    fewest_pools,
    how_many_partings,
    is_best_parting,
    is_parting,
    pool_for,
    total_for,
)
from tests.cells import THINGS, random_row
from tests.helper import Case

CHAIN = (1, 2, 4)
LONG = (1, 2, 4, 8, 16, 64)
CHAINS = ((1,), (1, 5), (1, 2, 4), (1, 2, 6, 12), (1, 2, 4, 8, 16), LONG, (1, 3, 6, 12, 24, 48))
GREAT = 4096 * 10 ** 26


def partings_by_labels(chain):
    """All PARTS, by giving each size the number of a part."""
    found = set()
    for labels in itertools.product(range(len(chain)), repeat=len(chain)):
        parts = [
            tuple(size for size, own in zip(chain, labels) if own == label)
            for label in sorted(set(labels))
        ]
        found.add(tuple(sorted(parts)))
    return sorted(found)


def need(sizes, budget):
    return budget + sum(
        budget - budget * low // high for low, high in zip(sizes, sizes[1:]))


def total(parts, budget):
    return sum(need(part, budget) for part in parts)


class Wrong(Case):
    def test_no_number(self):
        for budget in (1, 8, 15, 17, 24, 10 ** 30 + 1):
            raised = (NoNumber, {"number": budget})
            self.refuses(*raised, pool_for, CHAIN, budget)
            self.refuses(*raised, total_for, CHAIN, (CHAIN,), budget)
            self.refuses(*raised, total_for, CHAIN, ((1,), (2,), (4,)), budget)
            for most in (0, 16, 10 ** 30):
                self.refuses(*raised, fewest_pools, CHAIN, budget, most)
                self.refuses(*raised, best_parting, CHAIN, budget, most)
                for thing in (None, (CHAIN,), ((1,), (2, 4))):
                    self.refuses(*raised, is_best_parting, CHAIN, budget, most, thing)

    def test_the_greatest_of_these_sizes_counts(self):
        for sizes, budget in (((1, 2), 4), ((2,), 4), ((2,), 12), ((1,), 7), ((1, 4), 16),
                              ((1, 2, 4), 48), ((64,), 4096), ((1, 64), 8192)):
            self.tells(need(sizes, budget), pool_for, sizes, budget)
        for sizes, budget in (((1, 2), 2), ((2,), 6), ((1, 4), 8), ((4,), 4), ((64,), 1024)):
            self.refuses(NoNumber, {"number": budget}, pool_for, sizes, budget)
        # For several POOLS it is the greatest size of the CHAIN.
        self.refuses(NoNumber, {"number": 4}, total_for, CHAIN, ((1, 2), (4,)), 4)
        self.refuses(NoNumber, {"number": 4}, fewest_pools, CHAIN, 4, 100)


class Needs(Case):
    def test_edges(self):
        for chain in CHAINS:
            self.tells(0, pool_for, chain, 0)
            self.tells(GREAT * 9, pool_for, chain[:1], GREAT * 9)
            self.tells(GREAT * 9, pool_for, chain[-1:], GREAT * 9)
            self.tells(need(chain, GREAT * 9), pool_for, chain, GREAT * 9)
            self.tells(0, total_for, chain, tuple((size,) for size in chain), 0)
        self.tells(15 * 10 ** 29, pool_for, (1, 2), 10 ** 30)
        self.tells(10 ** 30, pool_for, (1,), 10 ** 30)

    def test_the_need_of_all_sizes_is_the_least_pool(self):
        for chain in CHAINS:
            for times in (0, 1, 3):
                budget = times * chain[-1] ** 2
                self.tells(least_pool(chain, budget), pool_for, chain, budget)

    def test_first_place_refuses_nothing_there(self):
        for sizes in ((2, 4), (1, 4), (2,), (1, 2, 4)):
            budget = sizes[-1] ** 2
            for seed in range(20):
                row = random_row(sizes, budget, 60, seed)
                self.assertTrue(serves_first(CHAIN, pool_for(sizes, budget), row))

    def test_totals(self):
        for chain in CHAINS[:5]:
            for times in (0, 1, 2, 10 ** 20):
                budget = times * chain[-1] ** 2
                for parts in all_partings(chain)[::3]:
                    self.tells(total(parts, budget), total_for, chain, parts, budget)
                    all_in_one = need(chain, budget)
                    if len(parts) > 1 and budget > 0:
                        self.assertGreater(total(parts, budget), all_in_one)


class Partings(Case):
    def test_all(self):
        for chain in CHAINS:
            self.tells(partings_by_labels(chain), all_partings, chain)
            self.tells(len(all_partings(chain)), how_many_partings, len(chain))
            for parts in all_partings(chain):
                self.assertTrue(is_parting(chain, parts))
        self.tells([((1,),)], all_partings, (1,))

    def test_the_list_is_new(self):
        told = all_partings(CHAIN)
        told.clear()
        self.assertEqual(len(all_partings(CHAIN)), 5)

    def test_how_many(self):
        for many, told in enumerate((1, 2, 5, 15, 52, 203, 877, 4140, 21147, 115975), 1):
            self.tells(told, how_many_partings, many)
        self.tells(976939307467007552986994066961675455550246347757474482558637,
                   how_many_partings, 60)
        # By how many of the others lie beside the first one.
        known = [1]
        for many in range(60):
            rows = [1]
            for at in range(many):
                rows.append(rows[-1] * (many - at) // (at + 1))
            known.append(sum(way * one for way, one in zip(rows, known)))
        for many in range(1, 61):
            self.tells(known[many], how_many_partings, many)

    def test_is_parting(self):
        for thing, told in (
            (((1, 2, 4),), True), (((1,), (2,), (4,)), True), (((1, 4), (2,)), True),
            (((2,), (1, 4)), False), (((1,), (4, 2)), False), (((1, 2),), False), ((), False),
            (((1, 2), (2, 4)), False), (((1, 2), (4,), (4,)), False), (((1,), (1,), (2, 4)), False),
            (((), (1, 2, 4)), False), (((1, 2, 4), ()), False), (((1, 2, 4, 8),), False),
            (((1, 2, 4), (8,)), False), (((1, 2, 4), (1, 2, 4)), False), (((1, 1, 2, 4),), False),
            ([(1, 2, 4)], False), (([1, 2, 4],), False), (((True, 2, 4),), False),
            (((1, 2, "4"),), False), ((1, 2, 4), False), (((1, 2, 3),), False),
            (((0, 1, 2, 4),), False), (((1, 2, 4), None), False), ((((1, 2, 4),),), False),
            (((-4, 1, 2),), False), (((1, 2, 4),) * 3000, False), ((tuple(range(3000)),), False),
            (tuple((at,) for at in range(3000)), False), (((1, 2), (4, None)), False),
        ):
            self.tells(told, is_parting, CHAIN, thing)
            self.tells(told, is_best_parting, CHAIN, 0, 0, thing)
        for thing in THINGS:
            self.tells(False, is_parting, CHAIN, thing)
            self.tells(False, is_parting, CHAIN, (thing, (1, 2, 4)))
            self.tells(False, is_parting, CHAIN, ((1, 2, 4), thing))
            self.tells(False, is_parting, CHAIN, ((1, 2, 4, thing),))
            one = type(thing) is int and thing == 1
            self.tells(one, is_parting, CHAIN, ((thing, 2, 4),))
            self.tells(thing == ((1,),), is_parting, (1,), thing)
        self.tells(True, is_parting, (1,), ((1,),))


class Best(Case):
    def test_against_all(self):
        for chain in CHAINS[:5]:
            partings = partings_by_labels(chain)
            for times in (0, 1, 3):
                budget = times * chain[-1] ** 2
                bounds = sorted({need(part, budget) for parts in partings for part in parts})
                for most in sorted({0, *bounds, *(one + 1 for one in bounds), budget // 2}):
                    self.check(chain, budget, most, [
                        parts for parts in partings
                        if all(need(part, budget) <= most for part in parts)
                    ])

    def check(self, chain, budget, most, within):
        fewest = min([len(parts) for parts in within], default=None)
        self.assertEqual(fewest_pools(chain, budget, most), fewest)
        best = best_parting(chain, budget, most)
        if not within:
            self.assertIsNone(best)
        else:
            self.assertIn(best, within)
            least = min(total(parts, budget) for parts in within)
            self.assertEqual(total(best, budget), least)
            self.assertEqual(total_for(chain, best, budget), least)
        for parts in partings_by_labels(chain)[::2]:
            right = parts in within and total(parts, budget) == total(best, budget)
            self.assertEqual(is_best_parting(chain, budget, most, parts), right)

    def test_edges(self):
        for most in (0, 1, 10 ** 30):
            self.tells(1, fewest_pools, CHAIN, 0, most)
            self.tells(True, is_best_parting, CHAIN, 0, most, (CHAIN,))
            self.tells(True, is_best_parting, CHAIN, 0, most, ((1,), (2,), (4,)))
            self.tells(True, is_best_parting, CHAIN, 0, most, best_parting(CHAIN, 0, most))
        self.tells(None, fewest_pools, (1,), 1, 0)
        self.tells(None, best_parting, (1,), 1, 0)
        self.tells(False, is_best_parting, (1,), 1, 0, ((1,),))
        self.tells(1, fewest_pools, (1,), 1, 1)
        self.tells(((1,),), best_parting, (1,), 1, 1)
        self.tells(True, is_best_parting, (1,), 1, 1, ((1,),))
        self.tells(6, fewest_pools, LONG, GREAT, GREAT)
        self.tells(None, fewest_pools, LONG, GREAT, GREAT - 1)
        self.tells(tuple((size,) for size in LONG), best_parting, LONG, GREAT, GREAT)
        self.tells((LONG,), best_parting, LONG, GREAT, 10 * GREAT)

    def test_fewest_pools_and_least_needs_differ(self):
        # Parts of two sizes need more together than these by themselves, but they are fewer.
        for most in range(16, 40):
            best = self.outcome_of(best_parting, (CHAIN, 16, most))[1]
            self.tells(True, is_best_parting, CHAIN, 16, most, best)
            self.assertGreaterEqual(len(best), fewest_pools(CHAIN, 16, most))
        for thing in (None, True, (), CHAIN, [CHAIN], ((1, 2, 4, 8),), *THINGS):
            for most in (15, 16, 40):
                self.tells(False, is_best_parting, CHAIN, 16, most, thing)
        self.tells(False, is_best_parting, CHAIN, 16, 31, (CHAIN,))
        self.tells(True, is_best_parting, CHAIN, 16, 32, (CHAIN,))
        self.tells(False, is_best_parting, CHAIN, 16, 32, ((1,), (2, 4)))
        self.tells(True, is_best_parting, CHAIN, 16, 31, ((1,), (2, 4)))
        self.tells(True, is_best_parting, CHAIN, 16, 31, ((1, 2), (4,)))
        self.tells(False, is_best_parting, CHAIN, 16, 31, ((1, 4), (2,)))


if __name__ == "__main__":
    unittest.main()
