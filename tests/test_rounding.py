"""Wishes of any length [13]."""

import itertools
import random
import unittest
from fractions import Fraction

from lentblocks.bound import is_even, least_pool, unit
from lentblocks.chains import all_chains
from lentblocks.errors import NoSize
from lentblocks.first import serves_first
from lentblocks.rounding import (
    beaten_by,
    beats,
    best_chains,
    best_within,
    enough_pool,
    is_beaten_by,
    is_tight,
    tight_chains,
    waste,
    worst_length,
)
from tests.cells import THINGS
from tests.helper import Case

GREAT = 10 ** 30
CHAINS = tuple(chain for greatest in range(1, 65) for chain in all_chains(greatest))
SPANS = ((1, 1), (1, 9), (2, 2), (2, 12), (6, 8), (7, 24), (12, 12), (13, 20), (29, 30), (33, 36))


def parts(chain, length):
    """For each wish, how many cells a wished cell gets."""
    return {
        wish: Fraction(min(size for size in chain if size >= wish), wish)
        for wish in range(1, length + 1)
    }


def waste_of(chain, length):
    return max(parts(chain, length).values())


def need_of(chain):
    return 1 + sum(1 - Fraction(low, high) for low, high in zip(chain, chain[1:]))


def pair(part):
    return (part.numerator, part.denominator)


def tight(length, greatest):
    return tuple(sorted(
        chain for chain in CHAINS if chain[-1] <= greatest and is_tight_by_words(chain, length)))


def is_tight_by_words(chain, length):
    return chain[-1] >= length and not any(size >= length for size in chain[:-1])


def beats_by_words(one, other, length):
    waste_one, waste_other = waste_of(one, length), waste_of(other, length)
    need_one, need_other = need_of(one), need_of(other)
    return (
        waste_one <= waste_other and need_one <= need_other
        and (waste_one < waste_other or need_one < need_other)
    )


class Waste(Case):
    def test_edges(self):
        self.tells((1, 1), waste, (1,), 1)
        self.tells(1, worst_length, (1,), 1)
        self.tells((1, 1), waste, (1, 64), 1)
        self.tells((32, 1), waste, (1, 64), 64)
        self.tells(2, worst_length, (1, 64), 64)
        self.tells((1, 1), waste, (1, 2), 2)
        self.tells(1, worst_length, (1, 2), 2)
        # Of several wishes that get as much the least one.
        self.tells((3, 2), waste, (1, 3, 6), 6)
        self.tells(2, worst_length, (1, 3, 6), 6)

    def test_all_chains(self):
        for chain in CHAINS[::3]:
            for length in range(1, chain[-1] + 1):
                told = parts(chain, length)
                most = max(told.values())
                self.assertEqual(waste(chain, length), pair(most))
                worst = min(wish for wish in told if told[wish] == most)
                self.assertEqual(worst_length(chain, length), worst)

    def test_called_in_all_ways(self):
        for length in range(1, 9):
            self.tells(pair(waste_of((1, 2, 8), length)), waste, (1, 2, 8), length)

    def test_no_size(self):
        for chain, length in (((1,), 2), ((1, 2, 4), 5), ((1, 2, 4), 64), ((1, 63), 64)):
            attributes = {"size": length}
            self.refuses(NoSize, attributes, waste, chain, length)
            self.refuses(NoSize, attributes, worst_length, chain, length)
            self.refuses(NoSize, attributes, beats, chain, (1, 64), length)
            self.refuses(NoSize, attributes, beats, (1, 64), chain, length)
            self.refuses(NoSize, attributes, beaten_by, chain, length, 64)
            self.refuses(NoSize, attributes, is_beaten_by, chain, length, 64, (1, 64))
            self.refuses(NoSize, attributes, is_beaten_by, chain, length, 64, None)
            for total in (0, 1, GREAT):
                self.refuses(NoSize, attributes, enough_pool, chain, length, total)


class Tight(Case):
    def test_is_tight(self):
        for chain, length, told in (
            ((1,), 1, True), ((1, 2), 1, False), ((1, 2), 2, True), ((1,), 2, False),
            ((1, 2, 4), 3, True), ((1, 2, 4), 4, True), ((1, 2, 4), 2, False),
            ((1, 2, 4), 5, False), ((1, 64), 64, True), ((1, 64), 2, True), ((1, 32, 64), 33, True),
            ((1, 32, 64), 32, False), ((1, 63), 64, False),
        ):
            self.tells(told, is_tight, chain, length)
        for chain in CHAINS:
            for length in range(1, 65):
                self.assertEqual(is_tight(chain, length), is_tight_by_words(chain, length))

    def test_tight_chains(self):
        for length, greatest in (*SPANS, (64, 64), (33, 64), (1, 64)):
            self.tells(tight(length, greatest), tight_chains, length, greatest)
        self.tells(((1,),), tight_chains, 1, 64)
        self.tells(((1, 2), (1, 3)), tight_chains, 2, 3)


class Beats(Case):
    def test_beats(self):
        for one, other, length, told in (
            ((1, 3, 6), (1, 2, 6), 6, True), ((1, 2, 6), (1, 3, 6), 6, False),
            ((1, 6), (1, 6), 6, False), ((1, 3, 6), (1, 6), 6, False), ((1, 6), (1, 3, 6), 6, False),
            ((1,), (1, 2), 1, True), ((1, 2), (1,), 1, False), ((1, 7), (1, 8), 6, True),
            ((1, 2, 4), (1, 2, 4), 1, False),
        ):
            self.tells(told, beats, one, other, length)

    def test_pairs(self):
        for one, other in itertools.product(CHAINS[::13], CHAINS[::17]):
            for length in (1, 2, 5, min(one[-1], other[-1])):
                if length <= min(one[-1], other[-1]):
                    self.assertEqual(beats(one, other, length), beats_by_words(one, other, length))

    def test_one_is_looked_at_first(self):
        with self.assertRaises(NoSize) as caught:
            beats((1, 2), (1,), 3)
        self.assertEqual(caught.exception.size, 3)

    def test_best_chains(self):
        for length, greatest in SPANS:
            chains = tight(length, greatest)
            best = tuple(
                chain for chain in chains
                if not any(beats_by_words(other, chain, length) for other in chains))
            self.tells(best, best_chains, length, greatest)
        self.tells(((1,),), best_chains, 1, 64)
        for length, greatest in ((20, 64), (33, 64)):
            self.assertGreater(len(best_chains(length, greatest)), 1)

    def test_beaten_by(self):
        for length, greatest in SPANS:
            chains = tight(length, greatest)
            for chain in (*CHAINS[::40], *chains[::5]):
                if chain[-1] >= length:
                    self.check(chain, length, greatest, chains)

    def check(self, chain, length, greatest, chains):
        those = [other for other in chains if beats_by_words(other, chain, length)]
        told = self.outcome_of(beaten_by, (chain, length, greatest))[1]
        if those:
            self.assertIn(told, those)
        else:
            self.assertIsNone(told)
        for other in (*chains, chain, (1,), (1, 64)):
            self.assertEqual(is_beaten_by(chain, length, greatest, other), other in those)

    def test_is_beaten_by(self):
        self.tells(True, is_beaten_by, (1, 8), 6, 8, (1, 7))
        self.tells(True, is_beaten_by, (1, 8), 6, 8, (1, 6))
        self.tells(True, is_beaten_by, (1, 8), 6, 7, (1, 7))
        self.tells(False, is_beaten_by, (1, 8), 6, 6, (1, 7))
        self.tells(False, is_beaten_by, (1, 6), 6, 8, (1, 6))
        self.tells(True, is_beaten_by, (1, 3, 6), 3, 8, (1, 3))     # not tight itself
        self.tells(False, is_beaten_by, (1, 2, 6), 2, 8, (1, 2, 4))  # beats it, is not tight
        for thing in (
            *THINGS, [1, 7], (1, 7, 7), (True, 7), (1, 7, 10), (7,), ((1, 7),), "17", (1, "7"),
            (1, 5), (1, 6, 12), (1, 9), (2, 6), (1, None),
        ):
            self.tells(False, is_beaten_by, (1, 8), 6, 8, thing)
        self.tells(True, is_beaten_by, (1, 2), 1, 1, (1,))
        self.tells(False, is_beaten_by, (1, 2), 1, 1, (True,))


class Within(Case):
    def test_edges(self):
        self.tells(None, best_within, 6, 8, (0, 1))
        self.tells(None, best_within, 6, 8, (1, 1))
        self.tells((1,), best_within, 1, 9, (1, 1))
        self.tells(None, best_within, 1, 9, (999, 1000))
        self.tells((1, 2), best_within, 2, 2, (1, 1))
        self.tells((1, 6), best_within, 6, 8, (GREAT, 1))
        self.tells((1, 3, 6), best_within, 6, 8, (3, 2))
        self.tells((1, 3, 6), best_within, 6, 8, (3 * GREAT - 1, GREAT))
        self.tells(None, best_within, 6, 8, (3 * GREAT - 1, 2 * GREAT))
        self.tells((1, 6), best_within, 6, 8, (3, 1))

    def test_all_limits(self):
        for length, greatest in SPANS:
            chains = tight(length, greatest)
            limits = {waste_of(chain, length) for chain in chains}
            limits |= {limit + Fraction(1, 100) for limit in limits}
            limits |= {limit - Fraction(1, 100) for limit in limits}
            for limit in sorted(limits):
                those = [chain for chain in chains if waste_of(chain, length) <= limit]
                best = min(
                    those, default=None,
                    key=lambda chain: (need_of(chain), waste_of(chain, length), chain))
                self.assertEqual(best_within(length, greatest, pair(limit)), best)

    def test_of_several_alike_the_least(self):
        # Both need and waste as much: 1 2 4 8 ahead of what comes behind it, if any.
        for length, greatest in ((5, 8), (9, 32), (17, 64)):
            told = best_within(length, greatest, (2, 1))
            alike = [
                chain for chain in tight(length, greatest)
                if need_of(chain) == need_of(told)
                and waste_of(chain, length) == waste_of(told, length)
            ]
            self.assertEqual(told, alike[0])


class Enough(Case):
    def test_edges(self):
        self.tells(0, enough_pool, (1, 3, 6), 6, 0)
        self.tells(0, enough_pool, (1,), 1, 0)
        self.tells(7, enough_pool, (1,), 1, 7)
        self.tells(GREAT, enough_pool, (1,), 1, GREAT)
        self.tells(least_pool((1, 2, 4), 8), enough_pool, (1, 2, 4), 4, 6)    # just 8
        self.tells(least_pool((1, 2, 4), 16), enough_pool, (1, 2, 4), 4, 7)
        self.tells(least_pool((1, 2, 4), 8), enough_pool, (1, 2, 4), 2, 8)
        self.tells(least_pool((1, 2, 4), 16), enough_pool, (1, 2, 4), 2, 9)

    def test_the_least_even_budget(self):
        for chain in CHAINS[::9]:
            for length in {1, 2, chain[-1] // 2, chain[-1]} - {0}:
                if length > chain[-1]:
                    continue
                for total in (1, 7, 100, unit(chain), GREAT, GREAT - 1):
                    wanted = waste_of(chain, length) * total
                    budget = -(-wanted // unit(chain)) * unit(chain)
                    self.assertTrue(is_even(chain, int(budget)))
                    self.assertTrue(budget >= wanted > budget - unit(chain))
                    self.assertEqual(
                        enough_pool(chain, length, total), least_pool(chain, int(budget)))

    def test_called_in_all_ways(self):
        for total in (0, 1, 99, GREAT):
            told = enough_pool((1, 3, 6), 6, total)
            self.tells(told, enough_pool, (1, 3, 6), 6, total)

    def test_no_wish_is_refused(self):
        for chain, length, total in (((1, 2, 4), 4, 9), ((1, 3, 6), 6, 11), ((1, 2, 4, 8), 7, 20)):
            pool = enough_pool(chain, length, total)
            for seed in range(30):
                row = self.wished(chain, length, total, random.Random(seed))
                self.assertTrue(serves_first(chain, pool, row))

    def wished(self, chain, length, total, choice):
        """A ROW for wishes whose lengths come to at most total."""
        out, row, asked = {}, [], 0
        for _ in range(60):
            wish = choice.randint(1, length)
            if sum(out.values()) + wish <= total:
                row.append(("ask", min(size for size in chain if size >= wish)))
                out[asked] = wish
                asked += 1
            else:
                number = choice.choice(sorted(out))
                row.append(("back", number))
                del out[number]
        return tuple(row)


if __name__ == "__main__":
    unittest.main()
