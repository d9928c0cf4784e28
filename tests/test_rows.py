"""Rows [6]."""

import unittest

from lentblocks.errors import NoNumber, NoPlace, NoSize
from lentblocks.rows import (
    all_back,
    asks_of,
    height,
    is_places,
    is_row,
    out_at,
    stands_by,
    still_out,
    with_ask,
    with_back,
)
from tests.cells import THINGS, cells_of, play_by_cells, random_row
from tests.helper import Case

CHAIN = (1, 2, 4)
ROW = (("ask", 1), ("ask", 4), ("back", 0), ("ask", 2), ("ask", 1), ("back", 1))
GREAT = 10 ** 30


class IsRow(Case):
    def test_rows(self):
        for row in (
            (), (("ask", 1),), (("ask", 4), ("back", 0)), ROW,
            (("ask", 1), ("ask", 1), ("back", 1), ("back", 0)),
            (("ask", 2), ("back", 0), ("ask", 2), ("back", 1)),
        ):
            self.tells(True, is_row, CHAIN, row)
        self.tells(True, is_row, (1,), ())
        self.tells(True, is_row, (1, 64), (("ask", 64),))

    def test_however_many_deeds(self):
        many = (("ask", 1),) * 4000 + tuple(("back", number) for number in range(4000))
        self.assertTrue(is_row((1,), many))
        self.assertFalse(is_row((1,), (*many, ("back", 0))))
        self.assertFalse(is_row((1,), (*many, ("back", 4000))))
        self.assertTrue(is_row((1,), (*many, ("ask", 1))))

    def test_wrong_asks(self):
        for size in (0, 3, -1, -2, 5, 8, GREAT, -GREAT, None, "1", "", (1,), [1], (), True, False):
            self.tells(False, is_row, CHAIN, (("ask", size),))
            self.tells(False, is_row, CHAIN, (*ROW, ("ask", size)))
        self.tells(False, is_row, (1,), (("ask", 2),))

    def test_wrong_backs(self):
        for number in (0, 1, 4, -1, -2, -3, GREAT, -GREAT, None, "2", (2,), [2], True, False):
            self.tells(False, is_row, CHAIN, (*ROW, ("back", number)))
        self.tells(False, is_row, CHAIN, (("back", 0),))
        self.tells(False, is_row, CHAIN, (("back", 0), ("ask", 1)))
        self.tells(False, is_row, CHAIN, (("ask", 1), ("back", 1), ("ask", 1)))
        self.tells(False, is_row, CHAIN, (("ask", 1), ("back", 0), ("back", 0)))
        self.tells(False, is_row, CHAIN, (("ask", 1), ("back", -1)))
        self.tells(False, is_row, CHAIN, (("ask", 1), ("back", False)))
        self.tells(True, is_row, CHAIN, (*ROW, ("back", 2), ("back", 3)))

    def test_other_things(self):
        for thing in THINGS:
            self.tells(False, is_row, CHAIN, thing)
            self.tells(False, is_row, CHAIN, (("ask", 1), thing))
            self.tells(thing == "ask", is_row, CHAIN, (("ask", 1), (thing, 1)))
        for thing in (
            [("ask", 1)], (["ask", 1],), ("ask", 1), (("ask", 1, 0),), (("ask",),), (("Ask", 1),),
            (("give", 1),), (("ask", 1), ("give", 0)), (("ask", 1), ("", 0)), ((1, "ask"),), (("ask", 1), "back"), ((("ask", 1),),), (("", 1),),
            (("ask", 1), ("back", 0, 0)), (("ask", 1), ["back", 0]), (("ask 1",),), ("ab",),
        ):
            self.tells(False, is_row, CHAIN, thing)


class Told(Case):
    def test_empty(self):
        for function in (asks_of, out_at, still_out, all_back):
            self.tells((), function, ())
        self.tells(0, height, ())

    def test_row(self):
        self.tells((1, 4, 2, 1), asks_of, ROW)
        self.tells((1, 5, 4, 6, 7, 3), out_at, ROW)
        self.tells(7, height, ROW)
        self.tells((2, 3), still_out, ROW)
        self.tells((*ROW, ("back", 2), ("back", 3)), all_back, ROW)
        self.tells((), still_out, (*ROW, ("back", 3), ("back", 2)))
        self.tells((3, 0), out_at, (("ask", 3), ("back", 0)))

    def test_height_is_reached_in_between(self):
        self.tells(4, height, (("ask", 4), ("back", 0), ("ask", 1)))
        self.tells(4, height, (("ask", 4), ("back", 0)))

    def test_random_rows(self):
        for seed in range(60):
            row = random_row(CHAIN, 9, 20, seed)
            self.assertTrue(is_row(CHAIN, row))
            asks = [number for word, number in row if word == "ask"]
            self.tells(tuple(asks), asks_of, row)
            sums = []
            for end in range(1, len(row) + 1):
                backs = [number for word, number in row[:end] if word == "back"]
                many = end - len(backs)
                sums.append(sum(asks[at] for at in range(many) if at not in backs))
            self.tells(tuple(sums), out_at, row)
            self.tells(max(sums), height, row)
            rest = tuple(at for at in range(len(asks)) if ("back", at) not in row)
            self.tells(rest, still_out, row)
            whole = row + tuple(("back", at) for at in rest)
            self.tells(whole, all_back, row)
            self.assertEqual(still_out(whole), ())
            self.assertTrue(is_row(CHAIN, whole))
            self.assertEqual(out_at(whole)[-1:], (0,))


class Longer(Case):
    def test_with_ask(self):
        self.tells((("ask", 4),), with_ask, CHAIN, (), 4)
        self.tells((*ROW, ("ask", 1)), with_ask, CHAIN, ROW, 1)
        for size in (0, 3, -1, -4, 8, GREAT, -GREAT):
            self.refuses(NoSize, {"size": size}, with_ask, CHAIN, ROW, size)
        self.refuses(NoSize, {"size": 2}, with_ask, (1,), (), 2)

    def test_with_back(self):
        self.tells((*ROW, ("back", 2)), with_back, ROW, 2)
        self.tells((*ROW, ("back", 3)), with_back, ROW, 3)
        for number in (0, 1, 4, 5, -1, -2, GREAT, -GREAT):
            self.refuses(NoNumber, {"number": number}, with_back, ROW, number)
        self.refuses(NoNumber, {"number": 0}, with_back, (), 0)
        self.refuses(NoNumber, {"number": 2}, with_back, with_back(ROW, 2), 2)


class Served(Case):
    def test_stands_by(self):
        self.tells([], stands_by, CHAIN, 0, (), ())
        self.tells(
            [((3, 1),), ((3, 1), (4, 4)), ((4, 4),), ((0, 2), (4, 4)), ((0, 2), (3, 1), (4, 4)),
             ((0, 2), (3, 1))],
            stands_by, CHAIN, 8, ROW, (3, 4, 0, 3),
        )
        self.tells(
            [((GREAT - 4, 4),), ((0, 1), (GREAT - 4, 4))],
            stands_by, CHAIN, GREAT, (("ask", 4), ("ask", 1)), (GREAT - 4, 0),
        )

    def test_each_list_is_new(self):
        one = stands_by(CHAIN, 8, ROW, (3, 4, 0, 3))
        one.clear()
        self.assertEqual(len(stands_by(CHAIN, 8, ROW, (3, 4, 0, 3))), len(ROW))

    def test_no_place(self):
        for places, number in (
            ((8, 4, 0, 3), 0),       # beyond the POOL
            ((GREAT, 4, 0, 3), 0),
            ((0, 2, 0, 3), 1),       # no multiple of its size
            ((0, 8, 0, 3), 1),       # ends beyond the POOL
            ((0, 0, 2, 3), 1),       # on another BLOCK
            ((3, 4, 4, 3), 2),
            ((3, 4, 6, 3), 2),
            ((3, 4, 3, 3), 2),
            ((3, 4, 2, 3), 3),
            ((3, 4, 0, 7), 3),
            ((3, 4, 1, 9), 2),       # the first of two
        ):
            self.refuses(NoPlace, {"number": number}, stands_by, CHAIN, 8, ROW, places)
            self.tells(False, is_places, CHAIN, 8, ROW, places)
        self.refuses(NoPlace, {"number": 0}, stands_by, CHAIN, 0, (("ask", 1),), (0,))

    def test_is_places(self):
        self.tells(True, is_places, CHAIN, 0, (), ())
        self.tells(True, is_places, CHAIN, 8, ROW, (3, 4, 0, 3))
        self.tells(True, is_places, CHAIN, GREAT, ROW, (GREAT - 5, GREAT - 4, 0, 3))
        for thing in (
            (3, 4, 0), (3, 4, 0, 3, 0), (), [3, 4, 0, 3], (3, 4, 0, True), (3, 4, False, 3),
            (3, 4, 0, "3"), (3, 4, 0, None), (3, 4, 0, (3,)), (3, 4, 0, -1), (-1, 4, 0, 3),
            (3, -4, 0, 3), "3403", (3, 4, [0], 3), ((3, 4, 0, 3),), (0,) * 3000,
        ):
            self.tells(False, is_places, CHAIN, 8, ROW, thing)
        for thing in THINGS:
            self.tells(False, is_places, CHAIN, 8, ROW, thing)
            self.tells(thing == (), is_places, CHAIN, 8, (), thing)
            self.tells(False, is_places, CHAIN, 8, (("ask", 1), ("ask", 1)), (0, thing, thing))

    def test_rows_of_a_thousand_deeds(self):
        row = (("ask", 1),) * 500 + tuple(("back", number) for number in range(500))
        self.assertTrue(is_places((1,), 500, row, tuple(range(499, -1, -1))))
        self.assertEqual(stands_by((1,), 500, row, tuple(range(500)))[-1], ())
        self.assertEqual(out_at(row)[499:501], (500, 499))

    def test_all_places_of_a_short_row(self):
        row = (("ask", 2), ("ask", 1), ("back", 0), ("ask", 2), ("ask", 1))
        for number in range(5 ** 4):
            places = tuple(number // 5 ** at % 5 for at in range(4))
            self.check((1, 2), 4, row, places)

    def check(self, chain, pool, row, places):
        def choose(stand, size):
            first = left.pop(0)
            right = (
                first % size == 0 and first + size <= pool
                and not cells_of([(first, size)]) & cells_of(stand)
            )
            return first if right else None

        left = list(places)
        stands, _, refused = play_by_cells(row, choose)
        self.assertEqual(is_places(chain, pool, row, places), refused is None)
        if refused is None:
            self.assertEqual(stands_by(chain, pool, row, places), stands)
        else:
            with self.assertRaises(NoPlace) as caught:
                stands_by(chain, pool, row, places)
            self.assertEqual(caught.exception.number, refused)


if __name__ == "__main__":
    unittest.main()
