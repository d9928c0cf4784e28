"""A board of POOLS [20]."""

import random
import unittest

from lentblocks.board import Board
from lentblocks.errors import Known, NoNumber, NoPool, NoSize, NothingDone
from tests.cells import free_by_cells
from tests.helper import Case, alike, outcome, raised, told, walks

CHAIN = (1, 2, 4)
GREAT = 10 ** 30
NONE = told(None)
NAMES = ("a", "hall", "yard", "abcdefgh", "zzzzzzzz", "names", "deeds", "b")


def seen(board):
    """All that can be seen of a Board."""
    return (
        board.names, board.deeds, len(board), [board[name] for name in board.names],
        [name in board for name in NAMES], [board.live(name) for name in board.names],
        [board.place(name, size) for name in board.names for size in board[name][0]],
        [board.open_for(size) for size in range(-1, 10)],
    )


class Steps(Case):
    def test_no_pools(self):
        board = walks(self, Board, (), seen, (
            ("undo", (), raised(NothingDone)), ("drop", ("a",), raised(NoPool, name="a")),
            ("rename", ("a", "b"), raised(NoPool, name="a")),
            ("rename", ("a", "a"), raised(NoPool, name="a")),
            ("ask", ("a", 1), raised(NoPool, name="a")), ("ask", ("a", 0), raised(NoPool, name="a")),
            ("give", ("a", 0), raised(NoPool, name="a")), ("live", ("a",), raised(NoPool, name="a")),
            ("place", ("a", 1), raised(NoPool, name="a")),
            ("place", ("a", 0), raised(NoPool, name="a")), ("open_for", (1,), told(())),
            ("open_for", (0,), told(())), ("open_for", (-1,), told(())),
        ))[0]
        self.assertTrue(alike(seen(board), ((), 0, 0, [], [False] * 8, [], [], [()] * 11)))
        with self.assertRaises(NoPool) as caught:
            board["hall"]
        self.assertEqual(vars(caught.exception), {"name": "hall"})

    def test_put_and_drop(self):
        board = walks(self, Board, (), seen, (
            ("put", ("yard", (1, 4), 8), NONE), ("put", ("hall", CHAIN, 0), NONE),
            ("put", ("yard", (1, 4), 8), raised(Known, name="yard")),
            ("put", ("hall", (1,), 3), raised(Known, name="hall")),
            ("drop", ("hill",), raised(NoPool, name="hill")), ("drop", ("hall",), NONE),
            ("drop", ("hall",), raised(NoPool, name="hall")), ("put", ("hall", (1,), 3), NONE),
            ("put", ("abcdefgh", CHAIN, 4 * GREAT), NONE), ("ask", ("hall", 1), told(0)),
        ))[0]
        self.assertTrue(alike(board.names, ("abcdefgh", "hall", "yard")))
        self.assertEqual((board.deeds, len(board)), (6, 3))
        self.assertTrue(alike(board["abcdefgh"], (CHAIN, 4 * GREAT, ())))
        self.assertTrue(alike(board["hall"], ((1,), 3, ((0, 1),))))
        self.assertTrue("hall" in board and "hal" not in board and "" not in board)

    def test_rename(self):
        board = walks(self, Board, (), seen, (
            ("put", ("a", CHAIN, 8), NONE), ("ask", ("a", 2), told(0)),
            ("put", ("b", (1,), 1), NONE),
            ("rename", ("c", "d"), raised(NoPool, name="c")),
            ("rename", ("c", "a"), raised(NoPool, name="c")),
            ("rename", ("c", "c"), raised(NoPool, name="c")),
            ("rename", ("a", "b"), raised(Known, name="b")),
            ("rename", ("a", "a"), raised(Known, name="a")), ("rename", ("a", "hall"), NONE),
            ("live", ("a",), raised(NoPool, name="a")), ("live", ("hall",), told(2)),
            ("rename", ("b", "a"), NONE), ("undo", (), NONE), ("undo", (), NONE),
        ))[0]
        self.assertEqual((board.names, board["a"]), (("a", "b"), (CHAIN, 8, ((0, 2),))))
        self.assertEqual(board.deeds, 3)

    def test_ask_and_give(self):
        board = walks(self, Board, (), seen, (
            ("put", ("a", (1, 2), 4), NONE), ("ask", ("a", 1), told(0)), ("ask", ("a", 2), told(2)),
            ("place", ("a", 1), told(1)), ("place", ("a", 2), NONE),
            ("ask", ("a", 4), raised(NoSize, size=4)), ("ask", ("a", 0), raised(NoSize, size=0)),
            ("ask", ("a", -1), raised(NoSize, size=-1)),
            ("ask", ("a", GREAT), raised(NoSize, size=GREAT)),
            ("place", ("a", 3), raised(NoSize, size=3)),
            ("place", ("a", -GREAT), raised(NoSize, size=-GREAT)),
            ("ask", ("b", 4), raised(NoPool, name="b")), ("place", ("b", 4), raised(NoPool, name="b")),
            ("give", ("a", 1), raised(NoNumber, number=1)),
            ("give", ("a", 3), raised(NoNumber, number=3)),
            ("give", ("a", -1), raised(NoNumber, number=-1)),
            ("give", ("a", GREAT), raised(NoNumber, number=GREAT)),
            ("give", ("b", 1), raised(NoPool, name="b")), ("live", ("a",), told(3)),
            ("give", ("a", 0), NONE), ("give", ("a", 0), raised(NoNumber, number=0)),
            ("live", ("a",), told(2)), ("place", ("a", 2), told(0)), ("ask", ("a", 2), told(0)),
        ))[0]
        self.assertTrue(alike(board["a"], ((1, 2), 4, ((0, 2), (2, 2)))))
        self.assertEqual(board.deeds, 5)

    def test_what_changes_nothing_is_a_deed(self):
        board = walks(self, Board, (), seen, (
            ("put", ("a", (1, 2), 2), NONE), ("ask", ("a", 2), told(0)), ("ask", ("a", 1), NONE),
            ("ask", ("a", 2), NONE), ("undo", (), NONE), ("live", ("a",), told(2)),
            ("undo", (), NONE), ("live", ("a",), told(2)), ("undo", (), NONE),
            ("live", ("a",), told(0)), ("undo", (), NONE), ("live", ("a",), raised(NoPool, name="a")),
            ("undo", (), raised(NothingDone)), ("put", ("a", (1,), 0), NONE),
            ("ask", ("a", 1), NONE), ("place", ("a", 1), NONE),
        ))[0]
        self.assertEqual(board.deeds, 2)

    def test_open_for(self):
        board = walks(self, Board, (), seen, (
            ("put", ("c", (1, 2), 4), NONE), ("put", ("b", (1, 4), 8), NONE),
            ("put", ("a", (1, 2, 4), 0), NONE), ("open_for", (1,), told(("b", "c"))),
            ("open_for", (2,), told(("c",))), ("open_for", (4,), told(("b",))),
            ("open_for", (3,), told(())), ("open_for", (0,), told(())),
            ("open_for", (-1,), told(())), ("open_for", (GREAT,), told(())),
            ("ask", ("c", 2), told(0)), ("open_for", (2,), told(("c",))), ("ask", ("c", 1), told(2)),
            ("open_for", (2,), told(())), ("open_for", (1,), told(("b", "c"))),
            ("ask", ("c", 1), told(3)), ("open_for", (1,), told(("b",))), ("drop", ("b",), NONE),
            ("open_for", (1,), told(())),
        ))[0]
        self.assertEqual(board.names, ("a", "c"))


class Objects(Case):
    def made(self):
        board = Board()
        board.put("hall", (1, 2), 4)
        board.put("yard", (1, 4), 8)
        board.ask("hall", 2)
        return board

    def test_equal(self):
        one = self.made()
        self.assertTrue(one == self.made() and Board() == Board())
        self.assertFalse(one != self.made())
        for change in (
            lambda: other.undo(), lambda: other.ask("hall", 1), lambda: other.give("hall", 0),
            lambda: other.drop("yard"), lambda: other.rename("yard", "shed"),
            lambda: other.put("shed", (1,), 1),
        ):
            other = self.made()
            change()
            self.assertFalse(one == other)
            self.assertFalse(other == one)
            self.assertTrue(one != other)
        for chain, pool in (((1, 4), 12), ((1, 2, 4), 8), ((1,), 8)):
            other = self.made()
            other.drop("yard")
            other.put("yard", chain, pool)
            self.assertFalse(one == other)
        for thing in (None, 0, "", (), {}, [], {"hall": 1}, Board, object()):
            self.assertFalse(Board() == thing)
            self.assertFalse(thing == Board())
            self.assertTrue(Board() != thing)

    def test_equal_whatever_can_be_undone(self):
        one, other = self.made(), Board()
        other.put("yard", [1, 4], 8)
        other.put("shed", [1, 2], 4)
        other.rename("shed", "hall")
        other.ask("hall", 2)
        other.ask("hall", 1)
        other.give("hall", 2)
        self.assertNotEqual(one.deeds, other.deeds)
        self.assertTrue(one == other)
        other.ask("yard", 4)
        other.undo()
        self.assertTrue(one == other)
        other.undo()
        self.assertFalse(one == other)

    def test_twin(self):
        one = self.made()
        other = one.twin()
        self.assertIs(type(other), Board)
        self.assertIsNot(one, other)
        self.assertTrue(one == other)
        self.assertEqual((one.deeds, other.deeds), (3, 0))
        self.assertEqual(outcome(other.undo), raised(NothingDone))
        before = seen(one)
        for change in (
            lambda: other.ask("hall", 1), lambda: other.give("hall", 0),
            lambda: other.rename("hall", "b"), lambda: other.drop("yard"),
            lambda: other.put("a", (1,), 1), lambda: other.undo(),
        ):
            change()
            self.assertTrue(alike(seen(one), before))
        kept = seen(other)
        one.undo()
        one.drop("hall")
        self.assertTrue(alike(seen(other), kept))
        self.assertEqual(Board().twin().names, ())

    def test_no_setters_and_no_iteration(self):
        board = self.made()
        before = seen(board)
        for name in ("names", "deeds"):
            self.assertIsInstance(vars(Board)[name], property)
            with self.assertRaises(AttributeError):
                setattr(board, name, getattr(board, name))
        for call in (
            lambda: iter(board), lambda: list(board), lambda: [one for one in board],
            lambda: sorted(board), lambda: tuple(board),
        ):
            with self.assertRaises(TypeError):
                call()
        with self.assertRaises(TypeError):
            board["hall"] = 1
        with self.assertRaises(TypeError):
            del board["hall"]
        self.assertTrue(alike(seen(board), before))

    def test_what_is_handed_in_is_copied(self):
        chain = [1, 2, 4]
        board = Board()
        board.put("a", chain, 8)
        board.ask("a", 4)
        before = seen(board)
        chain[:] = [1, 8]
        self.assertTrue(alike(seen(board), before))
        self.assertTrue(alike(board["a"], (CHAIN, 8, ((0, 4),))))


class Model:
    """A Board as plain dicts, with all that was ahead of each deed."""

    def __init__(self):
        self.pools, self.past = {}, []

    def keep(self):
        self.past.append({name: dict(pool) for name, pool in self.pools.items()})

    def do(self, word, name, *values):
        """What the deed tells or raises."""
        if word == "put":
            if name in self.pools:
                return raised(Known, name=name)
            self.keep()
            self.pools[name] = {"chain": values[0], "pool": values[1], "out": ()}
            return NONE
        if name not in self.pools:
            return raised(NoPool, name=name)
        pool = self.pools[name]
        if word == "rename" and values[0] in self.pools:
            return raised(Known, name=values[0])
        if word == "ask" and values[0] not in pool["chain"]:
            return raised(NoSize, size=values[0])
        if word == "give" and values[0] not in dict(pool["out"]):
            return raised(NoNumber, number=values[0])
        self.keep()
        return told(getattr(self, word)(name, *values))

    def drop(self, name):
        del self.pools[name]

    def rename(self, name, new):
        self.pools[new] = self.pools.pop(name)

    def ask(self, name, size):
        pool = self.pools[name]
        first = min(free_by_cells(pool["pool"], pool["out"], size), default=None)
        if first is not None:
            pool["out"] = tuple(sorted([*pool["out"], (first, size)]))
        return first

    def give(self, name, first):
        pool = self.pools[name]
        pool["out"] = tuple(block for block in pool["out"] if block[0] != first)

    def undo(self):
        if not self.past:
            return raised(NothingDone)
        self.pools = self.past.pop()
        return NONE

    def open_for(self, size):
        return tuple(sorted(
            name for name, pool in self.pools.items() if size in pool["chain"]
            and free_by_cells(pool["pool"], pool["out"], size)))


class AgainstModel(Case):
    def test_random_deeds(self):
        for seed in range(60):
            self.go(random.Random(seed))

    def deed(self, choice):
        word = choice.choice(("put", "put", "ask", "ask", "ask", "ask", "give", "drop", "rename"))
        name = choice.choice("abc")
        if word == "put":
            chain = choice.choice(((1,), (1, 2), CHAIN, (1, 3)))
            return (word, name, chain, chain[-1] * choice.randrange(4))
        if word == "rename":
            return (word, name, choice.choice("abcd"))
        if word == "drop":
            return (word, name)
        return (word, name, choice.choice((0, 1, 1, 2, 3, 4)))

    def go(self, choice):
        board, model = Board(), Model()
        for _ in range(60):
            if choice.random() < 0.15:
                self.assertEqual(outcome(board.undo), model.undo())
            else:
                word, *values = self.deed(choice)
                found = outcome(lambda: getattr(board, word)(*values))
                self.assertTrue(alike(found, model.do(word, *values)), (word, values, found))
            self.assertEqual(board.deeds, len(model.past))
            self.assertTrue(alike(board.names, tuple(sorted(model.pools))))
            for name, pool in model.pools.items():
                self.assertTrue(alike(board[name], (pool["chain"], pool["pool"], pool["out"])))
                self.assertEqual(board.live(name), sum(size for _, size in pool["out"]))
            for size in range(6):
                self.assertTrue(alike(board.open_for(size), model.open_for(size)))


if __name__ == "__main__":
    unittest.main()
