"""First place [7]."""

import unittest

from lentblocks.errors import NoPlace
from lentblocks.first import (
    ends_first,
    first_place,
    first_places,
    first_pool,
    first_stands,
    serves_first,
)
from lentblocks.rows import is_places, stands_by
from tests.cells import free_by_cells, play_by_cells, random_row, stands_by_cells
from tests.helper import Case

CHAIN = (1, 2, 4)
GREAT = 10 ** 30
# Four ones, two of them back: the two does not fit below 4.
ROW = (("ask", 1),) * 4 + (("back", 0), ("back", 2), ("ask", 2))


def first_by_cells(pool):
    """First place as a RULE, cell by cell."""
    return lambda stand, size: (free_by_cells(pool, stand, size) or [None])[0]


class FirstPlace(Case):
    def test_edges(self):
        self.tells(None, first_place, 0, (), 1)
        self.tells(0, first_place, 4, (), 4)
        self.tells(None, first_place, 4, ((0, 4),), 1)
        self.tells(4, first_place, 8, ((0, 4),), 4)
        self.tells(None, first_place, 8, ((3, 1), (4, 1)), 4)
        self.tells(0, first_place, 8, ((3, 1), (4, 1)), 2)
        self.tells(0, first_place, GREAT, ((GREAT - 4, 4),), 4)
        self.tells(4, first_place, GREAT, ((3, 1), (GREAT - 4, 4)), 4)
        self.tells(128, first_place, GREAT - GREAT % 64, ((0, 1), (127, 1)), 64)

    def test_a_stand_of_256_blocks(self):
        self.tells(1024, first_place, GREAT, tuple((4 * at, 1) for at in range(256)), 4)
        self.tells(1, first_place, GREAT, tuple((4 * at, 1) for at in range(256)), 1)
        self.tells(None, first_place, 1024, tuple((4 * at, 1) for at in range(256)), 4)

    def test_all_stands_of_small_pools(self):
        for chain, pool in (((1, 2, 4), 8), ((1, 3), 6), ((1, 2, 6), 6)):
            for stand in stands_by_cells(chain, pool):
                for size in chain:
                    self.assertEqual(
                        first_place(pool, stand, size), first_by_cells(pool)(stand, size)
                    )


class Rows(Case):
    def test_empty_row(self):
        self.tells((), first_places, CHAIN, 0, ())
        self.tells([], first_stands, CHAIN, 0, ())
        self.tells(True, serves_first, CHAIN, 0, ())
        self.tells(0, first_pool, CHAIN, ())
        self.tells((0, 0, 0), ends_first, CHAIN, ())
        self.tells(0, first_pool, (1,), ())
        self.tells((0,), ends_first, (1,), ())

    def test_refused(self):
        for pool, row, number in (
            (0, (("ask", 1),), 0), (4, ROW, 4), (4, (("ask", 1), ("ask", 4)), 1),
            (4, (("ask", 4), ("back", 0), ("ask", 1), ("ask", 4)), 2),
            (4, (("ask", 4), ("ask", 1), ("ask", 4)), 1),
        ):
            self.refuses(NoPlace, {"number": number}, first_places, CHAIN, pool, row)
            self.refuses(NoPlace, {"number": number}, first_stands, CHAIN, pool, row)
            self.tells(False, serves_first, CHAIN, pool, row)

    def test_served(self):
        self.tells((0, 1, 2, 3, 4), first_places, CHAIN, 8, ROW)
        self.tells((0, 1, 2, 3, 4), first_places, CHAIN, GREAT, ROW)
        self.tells(True, serves_first, CHAIN, 8, ROW)
        row = (("ask", 1), ("ask", 4), ("back", 0), ("ask", 2))
        self.tells((0, 4, 0), first_places, CHAIN, 8, row)
        self.tells([((0, 1),), ((0, 1), (4, 4)), ((4, 4),), ((0, 2), (4, 4))],
                   first_stands, CHAIN, 8, row)

    def test_each_list_is_new(self):
        first_stands(CHAIN, 8, ROW).clear()
        self.assertEqual(len(first_stands(CHAIN, 8, ROW)), len(ROW))

    def test_pools_and_ends(self):
        self.tells(8, first_pool, CHAIN, ROW)
        self.tells(6, first_pool, (1, 2), ROW)
        self.tells((4, 6, 0), ends_first, CHAIN, ROW)
        self.tells(64, first_pool, (1, 64), (("ask", 1),))
        self.tells(128, first_pool, (1, 64), (("ask", 1), ("ask", 64)))
        self.tells((1, 128), ends_first, (1, 64), (("ask", 1), ("ask", 64)))
        # The greatest end is kept when its BLOCK goes back.
        self.tells((3, 0), ends_first, (1, 2), (
            ("ask", 1), ("ask", 1), ("ask", 1), ("back", 2), ("back", 0), ("ask", 1)))
        self.tells((0, 4), ends_first, (1, 2), (
            ("ask", 2), ("ask", 2), ("back", 0), ("ask", 2)))

    def test_random_rows(self):
        for chain, budget in (((1,), 5), ((1, 2), 7), ((1, 2, 4), 11), ((1, 3, 6), 13)):
            for seed in range(12):
                self.check_row(chain, random_row(chain, budget, 24, seed))

    def check_row(self, chain, row):
        great = 20 * chain[-1]
        stands, places, _ = play_by_cells(row, first_by_cells(great))
        asks = [number for word, number in row if word == "ask"]
        ends = {size: 0 for size in chain}
        for size, first in zip(asks, places):
            ends[size] = max(ends[size], first + size)
        self.tells(tuple(ends.values()), ends_first, chain, row)
        least = -(-max(ends.values()) // chain[-1]) * chain[-1]
        self.tells(least, first_pool, chain, row)
        for pool in range(0, great, chain[-1]):
            _, got, refused = play_by_cells(row, first_by_cells(pool))
            self.assertEqual(serves_first(chain, pool, row), refused is None)
            self.assertEqual(pool >= least, refused is None)
            if refused is None:
                self.assertEqual(got, places)
                self.assertEqual(first_places(chain, pool, row), places)
                self.assertEqual(first_stands(chain, pool, row), stands)
                self.assertTrue(is_places(chain, pool, row, places))
                self.assertEqual(stands_by(chain, pool, row, places), stands)
            else:
                self.refuses(NoPlace, {"number": refused}, first_places, chain, pool, row)
                self.refuses(NoPlace, {"number": refused}, first_stands, chain, pool, row)

    def test_a_thousand_deeds(self):
        row = (("ask", 1),) * 500 + tuple(("back", number) for number in range(500))
        self.assertEqual(first_pool((1, 64), row), 512)
        self.assertEqual(first_places((1, 64), GREAT - GREAT % 64, row), tuple(range(500)))


if __name__ == "__main__":
    unittest.main()
