"""The opponent [9]."""

import random
import unittest

from lentblocks.bound import least_pool, lines, unit
from lentblocks.errors import BadAnswer, NoNumber
from lentblocks.first import first_place
from lentblocks.opponents import greatest_end, is_opponent_row, met_behind, opponent
from lentblocks.rows import height, is_row, stands_by
from tests.cells import cells_of, free_by_cells
from tests.helper import Case

CHAIN = (1, 2, 4)
GREAT = 10 ** 30
CASES = (((1,), 5), ((1, 2), 4), ((1, 2), 12), ((1, 3), 9), ((1, 2, 4), 8), ((1, 2, 4), 16),
         ((1, 2, 6), 36), ((1, 2, 4, 8), 16))


def first(pool):
    return lambda stand, size: first_place(pool, stand, size)


def last(pool):
    return lambda stand, size: (free_by_cells(pool, stand, size) or [None])[-1]


def any_place(pool, seed):
    """A RULE that answers some place, the same for the same STAND and size."""
    def place(stand, size):
        places = free_by_cells(pool, stand, size)
        return random.Random(f"{seed} {stand} {size}").choice(places) if places else None
    return place


def spread(stand, size):
    """A RULE without a POOL: each BLOCK far behind the last one."""
    return 100 * (len(stand) + 1) * size + (stand[-1][0] // size * size if stand else 0)


def told_by_words(chain, budget, pool, place):
    """What the opponent does, step by step as the document says it."""
    out, row, places, met = {}, [], [], []
    for step, size in enumerate(chain):
        slots = {}
        for number, (at, own) in out.items():
            slots.setdefault(at // size, []).append((own, at, number))
        if step > 0:
            back = [one for slot in slots.values() for one in sorted(slot)[1:]]
            for _, _, number in sorted(back, key=lambda one: one[1]):
                row.append(("back", number))
                del out[number]
        while sum(own for _, own in out.values()) + size <= budget:
            at = place(tuple(sorted(out.values())), size)
            row.append(("ask", size))
            if at is None:
                return tuple(row), tuple(places), "refused", tuple(met)
            out[len(places)] = (at, size)
            places.append(at)
        met.append(size * len({at // size for at, _ in out.values()}))
    return tuple(row), tuple(places), "served", tuple(met)


class Opponent(Case):
    def test_edges(self):
        def refuse(stand, size):
            return None

        self.tells(((), (), "served"), opponent, CHAIN, 0, 0, refuse)
        self.tells((0, 0, 0), met_behind, CHAIN, 0, 0, refuse)
        self.tells(0, greatest_end, CHAIN, 0, refuse)
        self.tells(((), (), "served"), opponent, (1,), 0, 0, refuse)
        self.tells(((("ask", 1),), (), "refused"), opponent, CHAIN, 8, 0, first(0))
        self.tells((), met_behind, CHAIN, 8, 0, first(0))
        self.tells(None, greatest_end, CHAIN, 8, refuse)
        row = (("ask", 1),) * 3
        self.tells((row, (0, 1, 2), "served"), opponent, (1,), 3, 3, first(3))
        self.tells((row, (0, 1), "refused"), opponent, (1,), 3, 2, first(2))
        self.tells((3,), met_behind, (1,), 3, 3, first(3))
        self.tells((), met_behind, (1,), 3, 2, first(2))
        self.tells(3, greatest_end, (1,), 3, first(99))

    def test_the_least_one_by_size_stays_of_several_the_first(self):
        # Step 1 leaves 1, 2, 4, 6, each in a slot of two; four twos follow.
        answers = {1: [1, 0, 2, 3, 4, 5, 6, 7], 2: [8, 10], 4: []}

        def place(stand, size):
            many = sum(1 for _, own in stand if own == size)
            return answers[size][many] if many < len(answers[size]) else None

        row = (("ask", 1),) * 8 + (
            ("back", 0), ("back", 3), ("back", 5), ("back", 7), ("ask", 2), ("ask", 2),
            ("back", 2), ("back", 6), ("back", 9), ("ask", 4))
        self.tells((row, (1, 0, 2, 3, 4, 5, 6, 7, 8, 10), "refused"), opponent, CHAIN, 8, 16, place)
        self.tells((8, 12), met_behind, CHAIN, 8, 16, place)
        self.tells(None, greatest_end, CHAIN, 8, place)

    def test_a_smaller_block_stays_though_it_lies_behind(self):
        def greater(stand, size):
            if size == 1:
                return (3, 7, 11, 15, 2, 6, 10, 14)[len(stand)]
            if size == 2:
                return (0, 4, 16, 20)[sum(1 for _, own in stand if own == 2)]
            return 24

        row, places, word = opponent(CHAIN, 8, 28, greater)
        self.assertEqual((row, places, word), told_by_words(CHAIN, 8, 28, greater)[:3])
        # Behind step 1 the ones at 2, 6, 10, 14 stay, then the twos at 0 and 4 join them.
        self.assertEqual(row[8:14], (
            ("back", 0), ("back", 1), ("back", 2), ("back", 3), ("ask", 2), ("ask", 2)))
        # In the slots at 0 and 4 the twos lie ahead; they go, the ones stay.
        self.assertEqual(row[14:], (("back", 8), ("back", 9), ("ask", 4)))

    def test_as_the_document_says_step_by_step(self):
        for chain, budget in CASES:
            bar = least_pool(chain, budget)
            greatest = chain[-1]
            for pool in (bar - 2 * greatest, bar - greatest, bar, bar + greatest, 3 * bar):
                if pool >= 0:
                    self.check(chain, budget, pool - pool % greatest)

    def check(self, chain, budget, pool):
        bar = least_pool(chain, budget)
        rules = [first(pool), last(pool), *(any_place(pool, seed) for seed in range(4))]
        for at, place in enumerate(rules):
            row, places, word, met = told_by_words(chain, budget, pool, place)
            self.tells((row, places, word), opponent, chain, budget, pool, place)
            self.tells(met, met_behind, chain, budget, pool, place)
            self.tells(True, is_opponent_row, chain, budget, row, places)
            self.assertTrue(is_row(chain, row))
            self.assertLessEqual(height(row), budget)
            for cells, line in zip(met, lines(chain, budget)):
                self.assertGreaterEqual(cells, line)
            if pool < bar:
                self.assertEqual(word, "refused")
            if at == 0:
                self.assertEqual(word == "refused", pool < bar)
            if word == "refused":
                self.assertEqual(row[-1][0], "ask")
                row = row[:-1]
            stands = stands_by(chain, pool, row, places)
            self.assertEqual(len(stands), len(row))

    def test_the_rule_gets_tuples_by_position(self):
        seen = []

        def place(stand, size, *rest, **more):
            seen.append((stand, size, rest, more))
            return first_place(16, stand, size)

        opponent(list(CHAIN), 8, 16, place)
        greatest_end(list(CHAIN), 8, place)
        met_behind(list(CHAIN), 8, 16, place)
        self.assertGreater(len(seen), 20)
        for stand, size, rest, more in seen:
            self.assertIs(type(stand), tuple)
            self.assertTrue(all(type(block) is tuple for block in stand))
            self.assertEqual((rest, more), ((), {}))
            self.assertIn(size, CHAIN)
            self.assertEqual(list(stand), sorted(stand))

    def test_a_great_budget(self):
        self.assertEqual(opponent(CHAIN, 128, 256, first(256))[2], "served")
        self.assertEqual(opponent(CHAIN, 128, 252, first(252))[2], "refused")
        self.assertEqual(met_behind(CHAIN, 128, 256, first(256)), (128, 192, 256))
        self.assertEqual(greatest_end(CHAIN, 128, first(GREAT)), 256)


class Ends(Case):
    def test_greatest_end(self):
        self.tells(16, greatest_end, CHAIN, 8, first(GREAT))
        self.tells(GREAT + 8, greatest_end, (1,), 8, lambda stand, size: GREAT + len(stand))
        # The greatest end is that of a BLOCK that goes back.
        places = {0: 51, 1: 50, 2: 2, 3: 3}
        self.tells(
            52, greatest_end, (1, 2), 4,
            lambda stand, size: places[len(stand)] if size == 1 else 4 + 2 * len(stand),
        )

    def test_guarantee(self):
        for chain, budget in CASES:
            bar = least_pool(chain, budget)
            for seed in range(4):
                place = any_place(2 * bar, seed)
                end = greatest_end(chain, budget, place)
                row, places, word, _ = told_by_words(chain, budget, None, place)
                if word == "refused":
                    self.assertIsNone(end)
                    continue
                asks = [number for name, number in row if name == "ask"]
                self.assertEqual(end, max(at + own for at, own in zip(places, asks)))
                self.assertGreaterEqual(-(-end // chain[-1]) * chain[-1], bar)
            self.assertEqual(greatest_end(chain, budget, first(GREAT)), bar)
            self.assertGreater(greatest_end(chain, budget, spread), bar)


class Wrong(Case):
    def test_not_even_ahead_of_any_answer(self):
        def place(stand, size):
            raise AssertionError("the RULE is not asked")

        for chain, budget in ((CHAIN, 4), (CHAIN, 1), ((1, 2), 6), ((1, 64), 127)):
            attributes = {"number": budget}
            self.refuses(NoNumber, attributes, opponent, chain, budget, 64, place)
            self.refuses(NoNumber, attributes, met_behind, chain, budget, 64, place)
            self.refuses(NoNumber, attributes, greatest_end, chain, budget, place)
            self.refuses(NoNumber, attributes, is_opponent_row, chain, budget, (), ())

    def test_bad_answers(self):
        for answer, kept in (
            (-1, -1), (16, 16), (GREAT, GREAT), (True, True), (False, False), ("0", "0"),
            ("", ""), ((0,), (0,)), ([0], (0,)), ([0, [1]], (0, (1,))), ((), ()), ({}, {}),
        ):
            def place(stand, size, answer=answer):
                return answer

            self.refuses(BadAnswer, {"answer": kept}, opponent, CHAIN, 8, 16, place)
            self.refuses(BadAnswer, {"answer": kept}, met_behind, CHAIN, 8, 16, place)
            if answer not in (16, GREAT):
                self.refuses(BadAnswer, {"answer": kept}, greatest_end, CHAIN, 8, place)

    def test_the_first_bad_answer(self):
        answers = {0: 3, 1: 5, 2: 5, 3: 99}
        self.refuses(BadAnswer, {"answer": 5}, opponent, CHAIN, 8, 16,
                     lambda stand, size: answers[len(stand)])
        self.refuses(BadAnswer, {"answer": 5}, greatest_end, CHAIN, 8,
                     lambda stand, size: answers[len(stand)])

    def test_bad_places_of_greater_sizes(self):
        for at, without_pool in ((3, True), (0, True), (-2, True), (6, False), (5, True)):
            def place(stand, size, at=at):
                return len(stand) if size == 1 else at

            self.refuses(BadAnswer, {"answer": at}, opponent, (1, 2), 4, 6, place)
            if without_pool:
                self.refuses(BadAnswer, {"answer": at}, greatest_end, (1, 2), 4, place)
            else:
                self.tells(at + 2, greatest_end, (1, 2), 4, place)

    def test_a_refusal_ahead_of_a_bad_answer(self):
        self.tells(((("ask", 1),) * 2, (0,), "refused"), opponent, CHAIN, 8, 16,
                   lambda stand, size: None if stand else 0)


class OpponentRows(Case):
    ROW = (("ask", 1),) * 4 + (("back", 1), ("back", 3), ("ask", 2))

    def test_right(self):
        self.tells(True, is_opponent_row, (1, 2), 4, self.ROW, (0, 1, 2, 3, 4))
        self.tells(True, is_opponent_row, (1, 2), 4, self.ROW, (0, 1, 2, 3, GREAT))
        self.tells(True, is_opponent_row, (1, 2), 4, self.ROW, (0, 1, 2, 3))
        self.tells(True, is_opponent_row, (1, 2), 4, self.ROW[:1], ())
        self.tells(True, is_opponent_row, (1, 2), 4, self.ROW[:4], (0, 1, 2))
        self.tells(True, is_opponent_row, (1, 2), 4, self.ROW[:4], (0, 2, 4, 6))
        self.tells(True, is_opponent_row, (1, 2), 0, (), ())
        self.tells(True, is_opponent_row, (1,), 2, self.ROW[:2], (7, 5))

    def test_wrong(self):
        for row, places in (
            (self.ROW, (0, 1, 2)), (self.ROW, (0, 1, 2, 3, 4, 6)), (self.ROW, (0, 2, 4, 6, 8)),
            (self.ROW, (0, 1, 2, 3, 5)), (self.ROW, (0, 1, 2, 3, 2)), (self.ROW, (0, 1, 2, 3, -2)),
            (self.ROW, (0, 1, 2, 2, 4)), (self.ROW, (0, 1, -2, 3, 4)), (self.ROW, ()),
            (self.ROW[:4], (0, 1, 2, 3)), (self.ROW[:6], (0, 1, 2, 3)), ((), ()), ((), (0,)),
            (self.ROW[:1], (0,)), (self.ROW[:4], (0, 1, 2, 3, 4)),
            ((("ask", 2),), ()), ((*self.ROW, ("ask", 1)), (0, 1, 2, 3, 4)),
            ((*self.ROW, ("back", 0)), (0, 1, 2, 3, 4)),
            ((("ask", 1),) * 4 + (("back", 0), ("back", 2), ("ask", 2)), (0, 1, 2, 3, 4)),
        ):
            self.tells(False, is_opponent_row, (1, 2), 4, row, places)
        self.tells(False, is_opponent_row, (1, 2), 0, (), (0,))
        self.tells(False, is_opponent_row, (1,), 2, self.ROW[:2], (7, 7))

    def test_other_orders_of_returns(self):
        row = (("ask", 1),) * 4 + (("back", 2), ("back", 0), ("ask", 2))
        self.tells(True, is_opponent_row, (1, 2), 4, row, (3, 2, 1, 0, 4))
        swapped = row[:4] + (row[5], row[4], row[6])
        self.tells(False, is_opponent_row, (1, 2), 4, swapped, (3, 2, 1, 0, 4))


class Overview(unittest.TestCase):
    """(b) of the overview: what a RULE is left with when it refuses below the bar."""

    def test_no_slot_is_free_when_first_place_refuses(self):
        for chain, budget in CASES:
            pool = least_pool(chain, budget) - chain[-1]
            self.assertEqual(budget % unit(chain), 0)
            if pool < 0:
                continue
            row, places, word = opponent(chain, budget, pool, first(pool))
            self.assertEqual(word, "refused")
            before = stands_by(chain, pool, row[:-1], places)
            stand = before[-1] if before else ()
            self.assertEqual(free_by_cells(pool, stand, row[-1][1]), [])
            self.assertLessEqual(len(cells_of(stand)) + row[-1][1], budget)


if __name__ == "__main__":
    unittest.main()
