"""Written rules [10]."""

import random
import unittest

from lentblocks.bound import least_pool
from lentblocks.errors import NoPlace, NoSize
from lentblocks.first import first_place, first_places, first_pool
from lentblocks.rows import is_places
from lentblocks.rules import (
    is_written,
    mirrored,
    place_by,
    places_by,
    pool_by,
    refused_by,
    room_of,
    served_by,
    serves,
)
from lentblocks.stands import is_stand
from tests.cells import THINGS, free_by_cells, play_by_cells, random_row, stands_by_cells
from tests.helper import Case

CHAIN = (1, 2, 4)
STAND = ((0, 1), (6, 2), (8, 4))
WORDS = ("first", "last", "tight", "wide")
GREAT = 10 ** 30
FAR = ((0, 1), (GREAT - 8, 4), (GREAT - 2, 1))
ORDERS = ((3, 2, 1, 0), (2, 0), (0,))
ROW = (("ask", 1), ("ask", 1), ("ask", 1), ("back", 1), ("ask", 2))


def room_by_cells(chain, pool, stand, first, size):
    if first not in free_by_cells(pool, stand, size):
        return 0
    return max(
        own for own in chain if own >= size and first // own * own in free_by_cells(pool, stand, own)
    )


def chosen_by_cells(rule, chain, pool, stand, size):
    """The place, by the rooms of all places."""
    places = free_by_cells(pool, stand, size)
    if not places:
        return None
    if isinstance(rule, (list, tuple)):
        return [at for at in rule[1][chain.index(size)] if at in places][0]
    rooms = {at: room_by_cells(chain, pool, stand, at, size) for at in places}
    if rule == "tight":
        return min(at for at in places if rooms[at] == min(rooms.values()))
    if rule == "wide":
        return min(at for at in places if rooms[at] == max(rooms.values()))
    return {"first": min, "last": max}[rule](places)


def table(chain, pool, seed):
    """A table in a random order, the same for the same seed."""
    choice = random.Random(seed)
    return (
        "table",
        tuple(tuple(choice.sample(range(0, pool, size), pool // size)) for size in chain),
    )


class IsWritten(Case):
    def test_words(self):
        for word in WORDS:
            self.tells(True, is_written, CHAIN, 8, word)
            self.tells(True, is_written, (1,), 0, word)
            self.tells(True, is_written, CHAIN, GREAT, word)
            self.tells(False, is_written, CHAIN, 8, (word,))
            self.tells(False, is_written, CHAIN, 8, [word])
            self.tells(False, is_written, CHAIN, 4, (word, ORDERS))
        for word in ("", "best", "First", "first ", "table", "lastfirst", "f", "tightwide"):
            self.tells(False, is_written, CHAIN, 8, word)

    def test_tables(self):
        self.tells(True, is_written, CHAIN, 4, ("table", ORDERS))
        self.tells(True, is_written, CHAIN, 0, ("table", ((), (), ())))
        self.tells(True, is_written, (1,), 2, ("table", ((1, 0),)))
        self.tells(True, is_written, (1,), 0, ("table", ((),)))
        for seed in range(5):
            self.tells(True, is_written, (1, 2, 6), 18, table((1, 2, 6), 18, seed))
        many = ("table", (tuple(range(2999, -1, -1)), tuple(range(0, 3000, 2))))
        self.assertTrue(is_written((1, 2), 3000, many))
        self.assertFalse(is_written((1, 2), GREAT, many))

    def test_wrong_tables(self):
        for orders in (
            (), ((3, 2, 1, 0), (2, 0)), (*ORDERS, ()), ORDERS[::-1], ((3, 2, 1, 0), (2, 0), ()),
            ((3, 2, 1), (2, 0), (0,)), ((3, 2, 1, 1), (2, 0), (0,)), ((3, 2, 1, 4), (2, 0), (0,)),
            ((3, 2, 1, 0), (2, 1), (0,)), ((3, 2, 1, 0), (2, 0), (4,)),
            ((3, 2, 1, 0, 0), (2, 0), (0,)), ((3, 2, 1, -1), (2, 0), (0,)),
            ((3, 2, True, 0), (2, 0), (0,)), ((3, 2, 1, False), (2, 0), (0,)),
            ((3, 2, 1, "0"), (2, 0), (0,)), ((3, 2, 1, None), (2, 0), (0,)),
            ([3, 2, 1, 0], (2, 0), (0,)), [(3, 2, 1, 0), (2, 0), (0,)], (3210, 20, 0),
            ((3, 2, 1, (0,)), (2, 0), (0,)), ("3210", "20", "0"), ((3, 2, 1, 0), (2, 0), 0),
        ):
            self.tells(False, is_written, CHAIN, 4, ("table", orders))
        for thing in (
            ("table",), ("table", ORDERS, ()), ["table", ORDERS], ("Table", ORDERS), (ORDERS,),
            ("tables", ORDERS), (ORDERS, "table"), ORDERS, (("table", ORDERS),), ("", ORDERS),
        ):
            self.tells(False, is_written, CHAIN, 4, thing)
        self.tells(False, is_written, CHAIN, 8, ("table", ORDERS))
        self.tells(False, is_written, (1, 2), 4, ("table", ORDERS))
        self.tells(False, is_written, CHAIN, 0, ("table", ORDERS))
        self.tells(False, is_written, CHAIN, 0, ("table", ()))

    def test_other_things(self):
        for thing in THINGS:
            self.tells(thing == "first", is_written, CHAIN, 4, thing)
            self.tells(False, is_written, CHAIN, 4, (thing, ORDERS))
            self.tells(False, is_written, CHAIN, 4, ("table", thing))
            self.tells(False, is_written, CHAIN, 4, ("table", ((3, 2, 1, 0), (2, 0), thing)))


class Places(Case):
    def test_edges(self):
        for word in WORDS:
            self.tells(None, place_by, word, CHAIN, 0, (), 1)
            self.tells(None, place_by, word, CHAIN, 4, ((0, 4),), 1)
            self.tells(None, place_by, word, CHAIN, 4, ((0, 1),), 4)
            self.tells(0, place_by, word, CHAIN, 4, (), 4)
            self.tells(0, place_by, word, (1,), 1, (), 1)
        self.tells(3, place_by, "last", CHAIN, 4, (), 1)
        self.tells(0, place_by, "tight", CHAIN, 8, (), 1)
        self.tells(0, place_by, "wide", CHAIN, 8, (), 1)

    def test_rooms(self):
        # A hole of one cell, one of two, one of four.
        stand = ((4, 1), (6, 1))
        self.tells(5, place_by, "tight", CHAIN, 12, stand, 1)
        self.tells(0, place_by, "wide", CHAIN, 12, stand, 1)
        self.tells(0, place_by, "tight", CHAIN, 12, stand, 2)
        self.tells(7, place_by, "tight", CHAIN, 12, (*stand[:1], (5, 1), (6, 1)), 1)
        self.tells(2, place_by, "tight", CHAIN, 12, ((0, 2), (4, 1), (5, 1), (6, 2)), 1)
        self.tells(8, place_by, "wide", CHAIN, 12, ((0, 2), (4, 1), (5, 1), (6, 2)), 1)

    def test_great_pools(self):
        for size, told in (
            (1, (1, GREAT - 1, 1, 4)), (2, (2, GREAT - 4, 2, 4)), (4, (4, GREAT - 12, 4, 4)),
        ):
            for word, place in zip(WORDS, told):
                self.tells(place, place_by, word, CHAIN, GREAT, FAR, size)
        # Behind a run of free slots that is as great as can be.
        stand = ((GREAT - 3, 1),)
        self.tells(GREAT - 4, place_by, "tight", CHAIN, GREAT, stand, 1)
        self.tells(GREAT - 2, place_by, "tight", CHAIN, GREAT, stand, 2)
        self.tells(0, place_by, "tight", CHAIN, GREAT, stand, 4)

    def test_no_size(self):
        for rule in (*WORDS, ("table", ORDERS)):
            for size in (0, 3, -1, 8, GREAT):
                self.refuses(NoSize, {"size": size}, place_by, rule, CHAIN, 4, (), size)
        for size in (0, 3, -1, 8, GREAT):
            self.refuses(NoSize, {"size": size}, room_of, CHAIN, 4, (), 0, size)
            self.refuses(NoSize, {"size": size}, room_of, CHAIN, 4, (), GREAT, size)

    def test_tables(self):
        rule = ("table", ORDERS)
        self.tells(3, place_by, rule, CHAIN, 4, (), 1)
        self.tells(0, place_by, rule, CHAIN, 4, ((2, 1),), 2)
        self.tells(None, place_by, rule, CHAIN, 4, ((2, 1),), 4)
        self.tells(None, place_by, rule, CHAIN, 4, ((0, 4),), 1)
        self.tells(None, place_by, ("table", ((), (), ())), CHAIN, 0, (), 1)

    def test_room_of(self):
        for first, size, room in (
            (0, 1, 0), (1, 1, 1), (2, 1, 2), (3, 1, 2), (2, 2, 2), (4, 1, 2), (5, 1, 2),
            (6, 1, 0), (12, 1, 4), (15, 1, 4), (14, 2, 4), (12, 4, 4), (13, 2, 0), (14, 4, 0),
            (16, 1, 0), (16, 4, 0), (8, 4, 0), (0, 4, 0), (GREAT, 1, 0),
        ):
            self.tells(room, room_of, CHAIN, 16, STAND, first, size)
        self.tells(4, room_of, CHAIN, GREAT, FAR, GREAT - 9, 1)
        self.tells(2, room_of, CHAIN, GREAT, FAR, GREAT - 3, 1)
        self.tells(1, room_of, CHAIN, GREAT, FAR, GREAT - 1, 1)
        self.tells(1, room_of, (1,), 2, (), 1, 1)

    def test_mirrored(self):
        self.tells((), mirrored, 0, ())
        self.tells((), mirrored, 8, ())
        self.tells(((4, 4), (8, 2), (15, 1)), mirrored, 16, STAND)
        self.tells(((1, 1), (4, 4), (GREAT - 1, 1)), mirrored, GREAT, FAR)

    def test_all_stands_of_small_pools(self):
        for chain, pool, step in (
            ((1,), 4, 1), ((1, 2), 6, 1), ((1, 2, 4), 8, 1), ((1, 3, 6), 12, 7),
            ((1, 2, 6), 12, 29), ((1, 2, 4), 12, 31), ((1, 4, 8), 8, 1),
        ):
            tables = [table(chain, pool, seed) for seed in range(3)]
            for stand in stands_by_cells(chain, pool)[::step]:
                other = mirrored(pool, stand)
                self.assertTrue(is_stand(chain, pool, other))
                self.assertEqual(mirrored(pool, other), stand)
                for size in chain:
                    self.check(chain, pool, stand, size, tables)
                    last = place_by("last", chain, pool, stand, size)
                    first = place_by("first", chain, pool, other, size)
                    self.assertEqual(last, None if first is None else pool - size - first)

    def check(self, chain, pool, stand, size, tables):
        for rule in (*WORDS, *tables):
            self.assertEqual(
                place_by(rule, chain, pool, stand, size),
                chosen_by_cells(rule, chain, pool, stand, size),
                (rule, chain, pool, stand, size),
            )
        self.assertEqual(place_by("first", chain, pool, stand, size),
                         first_place(pool, stand, size))
        for first in range(pool + 2):
            self.assertEqual(room_of(chain, pool, stand, first, size),
                             room_by_cells(chain, pool, stand, first, size))


class Plays(Case):
    def test_empty_row(self):
        for rule in (*WORDS, ("table", ((), (), ()))):
            self.tells((), served_by, rule, CHAIN, 0, ())
            self.tells((), places_by, rule, CHAIN, 0, ())
            self.tells(None, refused_by, rule, CHAIN, 0, ())
            self.tells(True, serves, rule, CHAIN, 0, ())
        for word in WORDS:
            self.tells(0, pool_by, word, CHAIN, ())

    def test_refused(self):
        for rule in ("first", "last", "tight", ("table", ORDERS)):
            self.refuses(NoPlace, {"number": 3}, places_by, rule, CHAIN, 4, ROW)
            self.tells(3, refused_by, rule, CHAIN, 4, ROW)
            self.tells(False, serves, rule, CHAIN, 4, ROW)
        self.tells((0, 1, 2), served_by, "first", CHAIN, 4, ROW)
        self.tells((3, 2, 1), served_by, ("table", ORDERS), CHAIN, 4, ROW)
        for rule in WORDS:
            self.tells(0, refused_by, rule, CHAIN, 0, ROW)
            self.tells((), served_by, rule, CHAIN, 0, ROW)
            self.refuses(NoPlace, {"number": 0}, places_by, rule, CHAIN, 0, ROW)
        # Nothing is played behind the first ask that is refused.
        row = (("ask", 4), ("ask", 1), ("back", 0), ("ask", 1))
        self.tells((0,), served_by, "first", CHAIN, 4, row)
        self.tells(1, refused_by, "first", CHAIN, 4, row)

    def test_served(self):
        self.tells((0, 2, 1, 2), places_by, "wide", CHAIN, 4, ROW)
        self.tells(None, refused_by, "wide", CHAIN, 4, ROW)
        self.tells(True, serves, "wide", CHAIN, 4, ROW)
        orders = ((0, 2, 1, 3), (2, 0), (0,))
        self.tells((0, 2, 1, 2), places_by, ("table", orders), CHAIN, 4, ROW)
        self.tells((GREAT - 1, GREAT - 2, GREAT - 3, GREAT - 6), places_by, "last", CHAIN, GREAT,
                   (("ask", 1), ("ask", 1), ("ask", 1), ("ask", 2)))
        self.tells((0, 4, 8), served_by, "wide", CHAIN, GREAT, (("ask", 1),) * 3)
        self.tells((0, 1, 4, 2), served_by, "tight", CHAIN, GREAT,
                   (("ask", 1), ("ask", 1), ("ask", 4), ("ask", 2)))

    def test_random_rows(self):
        for chain, budget in (((1,), 4), ((1, 2), 6), ((1, 2, 4), 9), ((1, 3, 6), 13)):
            for seed in range(10):
                row = random_row(chain, budget, 20, seed)
                for pool in range(0, 5 * chain[-1], chain[-1]):
                    for rule in (*WORDS, table(chain, pool, seed)):
                        self.check_row(rule, chain, pool, row)

    def check_row(self, rule, chain, pool, row):
        def choose(stand, size):
            return chosen_by_cells(rule, chain, pool, stand, size)

        _, places, refused = play_by_cells(row, choose)
        self.assertEqual(served_by(rule, chain, pool, row), places)
        self.assertEqual(refused_by(rule, chain, pool, row), refused)
        self.assertEqual(serves(rule, chain, pool, row), refused is None)
        if refused is None:
            self.assertEqual(places_by(rule, chain, pool, row), places)
            self.assertTrue(is_places(chain, pool, row, places))
        else:
            self.refuses(NoPlace, {"number": refused}, places_by, rule, chain, pool, row)
        if rule == "first" and refused is None:
            self.assertEqual(first_places(chain, pool, row), places)


class Pools(Case):
    def test_pool_by(self):
        for word, pool in zip(WORDS, (8, 8, 8, 4)):
            self.tells(pool, pool_by, word, CHAIN, ROW)
            self.tells(64, pool_by, word, (1, 64), (("ask", 1),))
            self.tells(128, pool_by, word, (1, 64), (("ask", 1), ("ask", 64)))
            self.tells(60, pool_by, word, (1,), (("ask", 1),) * 60)
            self.tells(1, pool_by, word, (1,), (("ask", 1), ("back", 0)))

    def test_the_least_of_all_pools(self):
        for chain, budget in (((1,), 4), ((1, 2), 7), ((1, 2, 4), 9), ((1, 2, 4, 8), 12)):
            for seed in range(25):
                row = random_row(chain, budget, 26, seed)
                pools = range(0, 20 * chain[-1], chain[-1])
                for word in WORDS:
                    served = [pool for pool in pools if serves(word, chain, pool, row)]
                    self.tells(served[0], pool_by, word, chain, row)
                least = first_pool(chain, row)
                self.assertEqual(pool_by("first", chain, row), least)
                self.assertEqual(pool_by("last", chain, row), least)

    def test_a_greater_pool_may_be_worse(self):
        row = (
            ("ask", 2), ("ask", 2), ("ask", 2), ("back", 2), ("ask", 1), ("ask", 2), ("ask", 1),
            ("back", 4), ("back", 1), ("ask", 4),
        )
        served = [serves("wide", CHAIN, pool, row) for pool in (0, 4, 8, 12, 16, 20)]
        self.assertEqual(served, [False, False, True, False, True, True])
        self.tells(8, pool_by, "wide", CHAIN, row)
        self.tells(6, refused_by, "wide", CHAIN, 12, row)

    def test_last_needs_just_the_bar(self):
        for chain, budget in (((1, 2), 4), ((1, 2, 4), 8)):
            pool = least_pool(chain, budget)
            for seed in range(20):
                self.assertTrue(serves("last", chain, pool, random_row(chain, budget, 50, seed)))


if __name__ == "__main__":
    unittest.main()
