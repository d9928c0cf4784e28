"""Chains of sizes [4]."""

import itertools
import unittest

from lentblocks.chains import (
    all_chains,
    chain_of,
    common_chain,
    how_many_chains,
    is_chain,
    is_finer,
    nth_chain,
    number_of_chain,
    place_of,
    ratios,
    size_for,
)
from lentblocks.errors import NoNumber, NoSize
from tests.helper import Case

GREATEST = range(1, 65)


def chains_by_sets(greatest):
    """All CHAINS that end with this size, by going through all sets of its divisors."""
    if greatest == 1:
        return ((1,),)
    inner = [size for size in range(2, greatest) if greatest % size == 0]
    found = []
    for many in range(0, 5):
        for sizes in itertools.combinations(inner, many):
            chain = (1, *sizes, greatest)
            if all(high % low == 0 for low, high in zip(chain, chain[1:])):
                found.append(chain)
    return tuple(sorted(found))


class IsChain(Case):
    def test_chains(self):
        for chain in ((1,), (1, 2), (1, 64), (1, 2, 4, 12), (1, 3, 6, 12), (1, 2, 4, 8, 16, 64)):
            self.tells(True, is_chain, chain)

    def test_wrong_sizes(self):
        for thing in (
            (), (0,), (2,), (2, 4), (1, 1), (1, 2, 2), (1, 4, 2), (1, 2, 3), (1, 4, 6), (1, 65),
            (1, 128), (1, 0), (1, 0, 5), (1, -1), (-1, 1), (1, 2, -4), (1, 2, 4, 8, 16, 32, 64),
            (1, 10 ** 40), (-10 ** 40,), (1,) * 5000, (1, 0, 0, 0, 0, 64), tuple(range(1, 3000)),
        ):
            self.tells(False, is_chain, thing)

    def test_other_things(self):
        deep = 1
        for _ in range(12):
            deep = (deep,)
        for thing in (
            None, True, False, 0, 1, 64, "", "1", "12", [], [1], [1, 2], (True,), (True, 2),
            (1, True), (1, "2"), ("1", 2), (1, None), (1, (2,)), (1, [2]), ((1, 2),), ((1,),),
            (1, 2, None), (None,), (False,), ("",), deep, [deep], (1, deep),
        ):
            self.tells(False, is_chain, thing)


class Sizes(Case):
    def test_ratios(self):
        for chain, rates in (
            ((1,), ()),
            ((1, 64), (64,)),
            ((1, 2, 4, 12), (2, 2, 3)),
            ((1, 3, 6, 12), (3, 2, 2)),
            ((1, 2, 4, 8, 16, 64), (2, 2, 2, 2, 4)),
        ):
            self.tells(rates, ratios, chain)
            self.tells(chain, chain_of, rates)

    def test_each_chain_comes_back_from_its_ratios(self):
        for greatest in GREATEST:
            for chain in all_chains(greatest):
                self.assertEqual(chain_of(ratios(chain)), chain)

    def test_size_for(self):
        chain = (1, 3, 6, 12)
        for length, size in ((1, 1), (2, 3), (3, 3), (4, 6), (6, 6), (7, 12), (12, 12)):
            self.tells(size, size_for, chain, length)
        self.tells(1, size_for, (1,), 1)
        self.tells(64, size_for, (1, 64), 64)
        for chain, length in (((1,), 2), ((1, 64), 65), ((1, 2, 4, 12), 13), ((1, 2), 10 ** 30)):
            self.refuses(NoSize, {"size": length}, size_for, chain, length)

    def test_place_of(self):
        chain = (1, 2, 4, 12)
        for place, size in enumerate(chain):
            self.tells(place, place_of, chain, size)
        self.tells(0, place_of, (1,), 1)
        for size in (0, 3, -1, -2, 5, 11, 13, 24, 10 ** 30, -10 ** 30):
            self.refuses(NoSize, {"size": size}, place_of, chain, size)


class TwoChains(Case):
    def test_is_finer(self):
        self.tells(True, is_finer, (1, 2, 4, 12), (1, 4))
        self.tells(True, is_finer, (1, 2, 4), (1, 2, 4))
        self.tells(True, is_finer, (1, 5), (1,))
        self.tells(True, is_finer, (1,), (1,))
        self.tells(False, is_finer, (1, 4), (1, 2, 4, 12))
        self.tells(False, is_finer, (1, 2, 4), (1, 3))
        self.tells(False, is_finer, (1, 2, 12), (1, 4, 12))
        self.tells(False, is_finer, (1,), (1, 2))

    def test_common_chain(self):
        self.tells((1, 12), common_chain, (1, 2, 4, 12), (1, 3, 6, 12))
        self.tells((1, 2, 4), common_chain, (1, 2, 4), (1, 2, 4))
        self.tells((1, 4), common_chain, (1, 4), (1, 2, 4, 12))
        self.tells((1,), common_chain, (1, 2), (1, 3))
        self.tells((1,), common_chain, (1,), (1, 64))

    def test_common_chain_is_a_chain_that_both_are_finer_than(self):
        chains = all_chains(24) + all_chains(36)
        for one, other in itertools.product(chains, chains):
            both = common_chain(one, other)
            self.assertTrue(is_chain(both))
            self.assertEqual(both, tuple(sorted(set(one) & set(other))))
            self.assertEqual(is_finer(one, other), both == other)


class AllChains(Case):
    def test_against_all_sets_of_divisors(self):
        for greatest in GREATEST:
            chains = chains_by_sets(greatest)
            self.tells(chains, all_chains, greatest)
            self.tells(len(chains), how_many_chains, greatest)

    def test_by_number(self):
        for greatest in GREATEST:
            chains = all_chains(greatest)
            for number, chain in enumerate(chains):
                self.assertTrue(is_chain(chain))
                self.tells(chain, nth_chain, greatest, number)
                self.tells(number, number_of_chain, chain)

    def test_no_such_number(self):
        for greatest, number in (
            (1, 1), (1, -1), (12, 8), (12, -1), (12, -8), (64, 31), (7, 10 ** 30), (7, -10 ** 30),
        ):
            self.refuses(NoNumber, {"number": number}, nth_chain, greatest, number)

    def test_at_most_six_sizes(self):
        self.tells(31, how_many_chains, 64)
        self.assertNotIn((1, 2, 4, 8, 16, 32, 64), all_chains(64))
        self.tells((1, 64), nth_chain, 64, 30)
        self.tells(0, number_of_chain, (1, 2, 4, 8, 16, 64))


if __name__ == "__main__":
    unittest.main()
