"""A POOL that lends [18]."""

import random
import unittest

from lentblocks.changes import Watch
from lentblocks.errors import NoNumber, NoSize, NothingDone
from tests.cells import free_by_cells
from tests.helper import Case, alike, outcome, raised, told, walks

CHAIN = (1, 2, 4)
STAND = ((1, 1), (4, 2))
GREAT = 10 ** 30
NONE = told(None)


def seen(watch):
    """All that can be seen of a Watch."""
    return (
        watch.chain, watch.pool, watch.stand, watch.told, len(watch), watch.live(),
        watch.height(), watch.reach(), watch.refused(),
    )


def live(stand):
    return sum(size for _, size in stand)


class Steps(Case):
    def test_nothing_done(self):
        for values, stand, cells, end in (
            ((CHAIN, 12), (), 0, 0), ((CHAIN, 12, ()), (), 0, 0), (((1,), 0), (), 0, 0),
            ((CHAIN, 12, STAND), STAND, 3, 6), ((CHAIN, 4, ((0, 4),)), ((0, 4),), 4, 4),
            ((CHAIN, GREAT * 4, ((GREAT * 4 - 1, 1),)), ((GREAT * 4 - 1, 1),), 1, GREAT * 4),
        ):
            watch = walks(self, Watch, values, seen, (
                ("back", (), raised(NothingDone)), ("give", (2,), raised(NoNumber, number=2)),
                ("ask", (3,), raised(NoSize, size=3)),
            ))[0]
            self.assertTrue(alike(
                seen(watch), (*values[:2], stand, (), 0, cells, cells, end, 0)))

    def test_height_and_reach_are_those_so_far(self):
        walks(self, Watch, (CHAIN, 12, STAND), seen, (
            ("live", (), told(3)), ("height", (), told(3)), ("reach", (), told(6)),
            ("ask", (4,), told(8)), ("live", (), told(7)), ("reach", (), told(12)),
            ("give", (8,), told(4)), ("live", (), told(3)), ("height", (), told(7)),
            ("reach", (), told(12)), ("give", (4,), told(2)), ("give", (1,), told(1)),
            ("live", (), told(0)), ("height", (), told(7)), ("reach", (), told(12)),
            # They fall again with what is taken back, not below those at the beginning.
            ("back", (), NONE), ("back", (), NONE), ("back", (), NONE),
            ("height", (), told(7)), ("back", (), NONE), ("height", (), told(3)),
            ("reach", (), told(6)), ("give", (4,), told(2)), ("height", (), told(3)),
            ("reach", (), told(6)), ("live", (), told(1)),
        ))

    def test_refused(self):
        watch = walks(self, Watch, ((1, 2), 2), seen, (
            ("ask", (2,), told(0)), ("refused", (), told(0)), ("ask", (1,), NONE),
            ("ask", (2,), NONE), ("refused", (), told(2)), ("give", (0,), told(2)),
            ("refused", (), told(2)), ("back", (), NONE), ("back", (), NONE),
            ("refused", (), told(1)), ("live", (), told(2)), ("height", (), told(2)),
        ))[0]
        self.assertEqual((watch.told, len(watch), watch.stand), ((0, None), 2, ((0, 2),)))

    def test_the_pool_0(self):
        for chain in ((1,), CHAIN):
            watch = walks(self, Watch, (chain, 0), seen, (
                ("ask", (1,), NONE), ("ask", (chain[-1],), NONE), ("live", (), told(0)),
                ("height", (), told(0)), ("reach", (), told(0)), ("refused", (), told(2)),
                ("give", (0,), raised(NoNumber, number=0)), ("back", (), NONE),
                ("back", (), NONE), ("back", (), raised(NothingDone)),
            ))[0]
            self.assertEqual((watch.told, watch.stand), ((), ()))

    def test_wrong_sizes_and_cells(self):
        for size in (0, -1, 3, 8, GREAT, -GREAT):
            walks(self, Watch, (CHAIN, 12, STAND), seen, (
                ("ask", (1,), told(0)), ("ask", (size,), raised(NoSize, size=size)),
                ("back", (), NONE), ("ask", (size,), raised(NoSize, size=size)),
            ))
        for first in (0, -1, 2, 5, 12, GREAT, -GREAT):
            walks(self, Watch, (CHAIN, 12, STAND), seen, (
                ("ask", (4,), told(8)), ("give", (first,), raised(NoNumber, number=first)),
                ("give", (8,), told(4)), ("give", (8,), raised(NoNumber, number=8)),
            ))

    def test_great_pools(self):
        walks(self, Watch, (CHAIN, GREAT * 4, ((0, 4), (GREAT * 4 - 4, 4))), seen, (
            ("ask", (4,), told(4)), ("ask", (1,), told(8)), ("ask", (2,), told(10)),
            ("give", (GREAT * 4 - 4,), told(4)), ("reach", (), told(GREAT * 4)),
            ("height", (), told(15)), ("live", (), told(11)),
        ))

    def test_against_cells(self):
        for chain, pool in (((1,), 4), ((1, 2), 6), (CHAIN, 12), ((1, 3, 6), 12)):
            for seed in range(15):
                self.go(chain, pool, random.Random(seed))

    def go(self, chain, pool, choice):
        start = [(chain[-1] * at, choice.choice(chain)) for at in range(choice.randrange(3))]
        watch = Watch(chain, pool, tuple(start))
        stands, answers = [tuple(start)], []
        for _ in range(60):
            stand = stands[-1]
            kind = choice.random()
            if kind < 0.2 and answers:
                self.assertIsNone(watch.back())
                answers.pop()
                stands.pop()
            elif kind < 0.45 and stand:
                first, size = choice.choice(stand)
                self.assertEqual(watch.give(first), size)
                answers.append(size)
                stands.append(tuple(block for block in stand if block[0] != first))
            else:
                size = choice.choice(chain)
                first = min(free_by_cells(pool, stand, size), default=None)
                self.assertEqual(watch.ask(size), first)
                answers.append(first)
                more = [] if first is None else [(first, size)]
                stands.append(tuple(sorted([*stand, *more])))
            self.assertTrue(alike(seen(watch), (
                chain, pool, stands[-1], tuple(answers), len(answers), live(stands[-1]),
                max(map(live, stands)),
                max([first + size for stand in stands for first, size in stand], default=0),
                answers.count(None),
            )))


class Objects(Case):
    def made(self):
        watch = Watch(CHAIN, 12, STAND)
        watch.ask(4)
        watch.ask(4)
        watch.give(1)
        return watch

    def test_equal(self):
        one = self.made()
        self.assertTrue(one == self.made())
        self.assertFalse(one != self.made())
        for change in (
            lambda: other.back(), lambda: other.ask(1), lambda: other.ask(4),
            lambda: other.give(8),
        ):
            other = self.made()
            change()
            self.assertFalse(one == other)
            self.assertFalse(other == one)
            self.assertTrue(one != other)
        # The same STAND, but told otherwise.
        other = self.made()
        other.ask(1)
        other.give(0)
        self.assertEqual(one.stand, other.stand)
        self.assertFalse(one == other)
        self.assertFalse(other == one)
        base = Watch(CHAIN, 12, STAND)
        for values in ((CHAIN, 16, STAND), (CHAIN, 8, STAND), ((1, 2), 12, STAND), (CHAIN, 12),
                       (CHAIN, 12, ((0, 1),)), ((1, 2, 4, 12), 12, STAND)):
            self.assertFalse(base == Watch(*values))
            self.assertFalse(Watch(*values) == base)
            self.assertTrue(base != Watch(*values))
        for thing in (None, 0, "", (), CHAIN, (CHAIN, 12, STAND, ()), [], {}, Watch, object()):
            self.assertFalse(base == thing)
            self.assertFalse(thing == base)
            self.assertTrue(base != thing)

    def test_equal_by_the_stand_as_it_is(self):
        # Another beginning is not asked, if STAND and what was returned are the same.
        one, other = Watch(CHAIN, 4, ((0, 1),)), Watch(CHAIN, 4, ((1, 1),))
        self.assertFalse(one == other)
        self.assertEqual((one.give(0), other.give(1)), (1, 1))
        self.assertTrue(one == other)
        one.back(), other.back()
        self.assertFalse(one == other)

    def test_twin(self):
        one = self.made()
        other = one.twin()
        self.assertIs(type(other), Watch)
        self.assertIsNot(one, other)
        self.assertTrue(alike(seen(one), seen(other)))
        before = seen(one)
        other.ask(1)
        self.assertTrue(alike(seen(one), before))
        other.back()
        self.assertTrue(alike(seen(other), before))
        one.give(4)
        self.assertTrue(alike(seen(other), before))
        for _ in range(3):
            self.assertIsNone(other.back())
        self.assertEqual(outcome(other.back), raised(NothingDone))
        # The beginning is the same, too.
        self.assertTrue(alike(seen(other), seen(Watch(CHAIN, 12, STAND))))
        self.assertEqual(len(one), 4)
        grown = Watch(CHAIN, 12, ((8, 4),))
        grown.give(8)
        self.assertEqual((grown.twin().reach(), grown.twin().height()), (12, 4))

    def test_no_setters_and_no_iteration(self):
        watch = self.made()
        before = seen(watch)
        for name in ("chain", "pool", "stand", "told"):
            self.assertIsInstance(vars(Watch)[name], property)
            with self.assertRaises(AttributeError):
                setattr(watch, name, getattr(watch, name))
        for call in (
            lambda: iter(watch), lambda: list(watch), lambda: [one for one in watch],
            lambda: dict(watch), lambda: sorted(watch),
        ):
            with self.assertRaises(TypeError):
                call()
        self.assertTrue(alike(seen(watch), before))

    def test_what_is_handed_in_is_copied(self):
        chain, stand = [1, 2, 4], [[1, 1], [4, 2]]
        watch = Watch(chain, 12, stand)
        watch.ask(1)
        before = seen(watch)
        chain[:] = [1, 8]
        stand[0][0] = 3
        stand.pop()
        self.assertTrue(alike(seen(watch), before))
        watch.back()
        self.assertTrue(alike((watch.chain, watch.stand), (CHAIN, STAND)))


if __name__ == "__main__":
    unittest.main()
