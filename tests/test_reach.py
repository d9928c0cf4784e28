"""Small pools gone through [11]."""

import random
import unittest

from lentblocks.bound import least_pool, unit
from lentblocks.chains import all_chains
from lentblocks.errors import BadAnswer
from lentblocks.first import first_place
from lentblocks.reach import (
    fewest_deeds,
    good_places,
    good_stands,
    is_closed,
    is_refusal,
    least_for_any,
    refusal,
    some_rule,
    stands_of,
)
from lentblocks.rules import place_by
from tests.cells import THINGS, free_by_cells, stands_by_cells
from tests.helper import Case

PAIR = (1, 2)
GREAT = 10 ** 30
SMALL = (((1,), 0), ((1,), 3), ((1, 2), 4), ((1, 2), 6), ((1, 3), 6), ((1, 2, 4), 4), ((1, 2, 4), 8))
# Four ones, then the second one back: 4 cells have no slot for a two.
ROW = (("ask", 1), ("ask", 1), ("ask", 1), ("back", 1), ("ask", 2))


def by(word, chain, pool):
    return lambda stand, size: place_by(word, chain, pool, stand, size)


def first(pool):
    return lambda stand, size: first_place(pool, stand, size)


def some_place(pool, seed, refusals=0.0):
    """A RULE that answers some place or refuses, the same for the same STAND and size."""
    def place(stand, size):
        choice = random.Random(f"{seed} {stand} {size}")
        places = free_by_cells(pool, stand, size)
        return choice.choice(places) if places and choice.random() >= refusals else None
    return place


def rules(chain, pool):
    return [by(word, chain, pool) for word in ("first", "last", "tight", "wide")] + [
        some_place(pool, 1), some_place(pool, 2, 0.2), lambda stand, size: None]


def live(stand):
    return sum(size for _, size in stand)


def with_block(stand, at, size):
    return tuple(sorted((*stand, (at, size))))


def without(stand):
    return [tuple(other for other in stand if other != block) for block in stand]


def walk(chain, budget, place):
    """The distance of each STAND from (), and the fewest DEEDS to a refusal, or None."""
    far = {(): 0}
    queue = [()]
    fewest = None
    for stand in queue:
        after = without(stand)
        for size in chain:
            if live(stand) + size <= budget:
                at = place(stand, size)
                if at is None:
                    fewest = far[stand] + 1 if fewest is None else fewest
                else:
                    after.append(with_block(stand, at, size))
        for other in after:
            if other not in far:
                far[other] = far[stand] + 1
                queue.append(other)
    return far, fewest


def good_by_cells(chain, pool, budget):
    """The good STANDS: from all of them those go that lead, or must lead, out of the rest."""
    good = {stand for stand in stands_by_cells(chain, pool) if live(stand) <= budget}
    while True:
        bad = [stand for stand in good if not stays(chain, pool, budget, stand, good)]
        if not bad:
            return sorted(good)
        good -= set(bad)


def stays(chain, pool, budget, stand, good):
    return all(other in good for other in without(stand)) and all(
        any(with_block(stand, at, size) in good for at in free_by_cells(pool, stand, size))
        for size in chain if live(stand) + size <= budget
    )


def is_refusal_by_words(chain, budget, place, row):
    """Whether a ROW is a refusal, deed by deed."""
    out, asked = {}, 0
    for at, (word, number) in enumerate(row):
        if word == "back":
            del out[number]
            continue
        stand = tuple(sorted(out.values()))
        if live(stand) + number > budget:
            return False
        answer = place(stand, number)
        if answer is None:
            return at == len(row) - 1
        out[asked] = (answer, number)
        asked += 1
    return False


class StandsOf(Case):
    def test_edges(self):
        self.tells([()], stands_of, (1,), 0, 0, first(0))
        self.tells([()], stands_of, (1,), 0, GREAT, first(0))
        self.tells([()], stands_of, PAIR, 4, 0, first(4))
        self.tells([()], stands_of, PAIR, 4, 4, lambda stand, size: None)
        self.tells([(), ((0, 1),)], stands_of, PAIR, 4, 1, first(4))
        self.tells([(), ((0, 1),), ((0, 1), (1, 1)), ((0, 2),), ((1, 1),)],
                   stands_of, PAIR, 4, 2, first(4))
        self.tells([(), ((2, 2),)], stands_of, PAIR, 4, GREAT,
                   lambda stand, size: 2 if size == 2 and not stand else None)

    def test_each_list_is_new(self):
        stands_of(PAIR, 4, 4, first(4)).clear()
        self.assertGreater(len(stands_of(PAIR, 4, 4, first(4))), 3)

    def test_rules_of_all_sorts(self):
        for chain, pool in SMALL:
            for budget in (0, 1, pool // 2, pool, pool + 1, GREAT):
                for place in rules(chain, pool):
                    far, _ = walk(chain, budget, place)
                    self.tells(sorted(far), stands_of, chain, pool, budget, place)

    def test_asked_only_where_it_can_be_asked_for(self):
        seen = []

        def place(stand, size, *rest, **more):
            seen.append((stand, size))
            self.assertEqual((rest, more), ((), {}))
            return first_place(4, stand, size)

        for chain in (PAIR, list(PAIR)):
            stands = stands_of(chain, 4, 3, place)
            refusal(chain, 4, 3, place)
            fewest_deeds(chain, 4, 3, place)
            is_refusal(chain, 4, 3, place, ROW)
            is_refusal(chain, 4, 3, place, (("ask", 2), ("ask", 2)))
            is_closed(chain, 4, 3, place, tuple(stands))
        self.assertGreater(len(seen), 50)
        for stand, size in seen:
            self.assertIs(type(stand), tuple)
            self.assertTrue(all(type(block) is tuple for block in stand))
            self.assertEqual(list(stand), sorted(stand))
            self.assertLessEqual(live(stand) + size, 3)

    def test_pools_of_twelve(self):
        self.assertEqual(len(stands_of((1,), 12, GREAT, first(12))), 4096)
        self.assertEqual(len(stands_of((1, 12), 12, 12, first(12))), 4097)
        self.assertIsNone(refusal((1, 12), 12, 11, first(12)))
        self.assertEqual(fewest_deeds((1,), 12, GREAT, first(12)), 13)


class Refusals(Case):
    def test_edges(self):
        for function in (refusal, fewest_deeds):
            self.tells(None, function, PAIR, 0, 0, lambda stand, size: None)
            self.tells(None, function, PAIR, 4, 0, lambda stand, size: None)
            self.tells(None, function, PAIR, 6, 4, first(6))
            self.tells(None, function, (1,), 3, 3, first(3))
        self.tells((("ask", 1),), refusal, PAIR, 4, 1, lambda stand, size: None)
        self.tells(1, fewest_deeds, PAIR, 0, 1, first(0))
        self.tells((("ask", 2),), refusal, PAIR, 4, 4,
                   lambda stand, size: first_place(4, stand, 1) if size == 1 else None)
        self.tells((("ask", 1),) * 4, refusal, (1,), 3, GREAT, first(3))

    def test_asks_and_returns(self):
        self.tells(5, fewest_deeds, PAIR, 4, 4, first(4))
        # Asks that are refused are not among the numbers, and returns name asks that are out.
        for chain, pool in SMALL:
            for budget in (0, 1, pool - 1, pool, pool + 1, GREAT):
                for place in rules(chain, pool):
                    if budget >= 0:
                        self.check(chain, pool, budget, place)

    def check(self, chain, pool, budget, place):
        _, fewest = walk(chain, budget, place)
        self.tells(fewest, fewest_deeds, chain, pool, budget, place)
        row = self.outcome_of(refusal, (chain, pool, budget, place))[1]
        if fewest is None:
            self.assertIsNone(row)
            return
        self.assertEqual(len(row), fewest)
        self.tells(True, is_refusal, chain, pool, budget, place, row)
        self.assertTrue(is_refusal_by_words(chain, budget, place, row))
        self.tells(False, is_refusal, chain, pool, budget, place, row[:-1])
        self.tells(False, is_refusal, chain, pool, budget, place, (*row, row[-1]))

    def test_not_only_the_shortest(self):
        place = first(4)
        for row in (
            ROW, (("ask", 1), ("ask", 1), ("ask", 1), ("ask", 1), ("back", 1), ("back", 2),
                  ("ask", 2)),
            (("ask", 2), ("back", 0), ("ask", 1), ("ask", 1), ("ask", 1), ("back", 2), ("ask", 2)),
            (("ask", 2), ("ask", 1), ("back", 0), ("ask", 1), ("back", 2), ("ask", 1), ("back", 3),
             ("ask", 2), ("back", 4), ("ask", 2), ("back", 5), ("ask", 1), ("ask", 2)),
        ):
            self.tells(is_refusal_by_words(PAIR, 4, place, row), is_refusal, PAIR, 4, 4, place, row)
        many = (("ask", 1), ("ask", 1), ("ask", 1), ("back", 1)) + tuple(
            deed for number in range(3, 3000) for deed in (("ask", 1), ("back", number)))
        self.assertTrue(is_refusal(PAIR, 4, 4, place, (*many, ("ask", 2))))
        self.assertFalse(is_refusal(PAIR, 4, 4, place, (*many, ("ask", 1))))

    def test_wrong_rows(self):
        for row in (
            (), ROW[:-1], (*ROW, ("back", 0)), (*ROW, ("ask", 1)), (*ROW, ("ask", 2)),
            (("ask", 1),) * 5,                       # more than the BUDGET
            (("ask", 1), ("ask", 1), ("ask", 1), ("back", 0), ("ask", 1), ("ask", 2)),
            (("ask", 1), ("ask", 1), ("ask", 1), ("ask", 2)),
            (("ask", 1), ("ask", 2)), (("ask", 3),), list(ROW), (*ROW[:-1], ["ask", 2]),
            (*ROW[:-1], ("ask", True)), (("back", 0),), (*ROW[:3], ("back", 3), ROW[4]),
            (*ROW[:3], ("back", -2), ROW[4]), (*ROW[:-1], ("ask", 4)),
        ):
            self.tells(False, is_refusal, PAIR, 4, 4, first(4), row)
        for thing in THINGS:
            self.tells(False, is_refusal, PAIR, 4, 4, first(4), thing)
            self.tells(False, is_refusal, PAIR, 4, 4, first(4), (*ROW[:-1], thing))
            self.tells(False, is_refusal, PAIR, 4, 4, first(4), (*ROW[:-1], ("ask", thing)))

    def test_beyond_the_budget(self):
        def refuse(stand, size):
            return None

        self.tells(True, is_refusal, PAIR, 4, 2, refuse, (("ask", 2),))
        self.tells(False, is_refusal, PAIR, 4, 2, first(4), (("ask", 2), ("ask", 2)))
        self.tells(False, is_refusal, PAIR, 4, 2, first(4), (("ask", 2), ("ask", 1)))
        self.tells(False, is_refusal, PAIR, 4, 1, refuse, (("ask", 2),))
        self.tells(False, is_refusal, PAIR, 4, 0, refuse, (("ask", 1),))
        self.tells(False, is_refusal, PAIR, 4, 3, first(4), (*ROW[:3], ("ask", 1)))
        self.tells(True, is_refusal, PAIR, 4, GREAT, first(4), (("ask", 1),) * 5)


class Closed(Case):
    def test_edges(self):
        def refuse(stand, size):
            return None

        self.tells(True, is_closed, PAIR, 4, 0, refuse, ((),))
        self.tells(True, is_closed, PAIR, 0, 0, refuse, ((),))
        self.tells(False, is_closed, PAIR, 4, 1, refuse, ((),))
        self.tells(False, is_closed, PAIR, 4, 0, refuse, ())
        self.tells(False, is_closed, PAIR, 4, 0, refuse, [()])
        self.tells(True, is_closed, PAIR, 4, 1, first(4), ((), ((0, 1),)))
        self.tells(False, is_closed, PAIR, 4, 1, first(4), ((),))
        self.tells(False, is_closed, PAIR, 4, 1, first(4), (((0, 1),),))
        # It is left by no return, and yet it has a STAND above the BUDGET.
        self.tells(False, is_closed, PAIR, 4, 1, first(4),
                   ((), ((0, 1),), ((0, 1), (1, 1)), ((1, 1),)))
        # What is not come to may be among them.
        self.tells(True, is_closed, PAIR, 4, 1, first(4), ((), ((0, 1),), ((3, 1),)))
        # In it, too, nothing may be refused, or lead out of it.
        self.tells(False, is_closed, PAIR, 4, 2, first(4),
                   ((), ((0, 1),), ((0, 1), (1, 1)), ((0, 2),), ((1, 1),), ((3, 1),)))

    def test_rules_of_all_sorts(self):
        closed = 0
        for chain, pool in SMALL:
            for budget in (0, 1, pool // 2, pool):
                for place in rules(chain, pool):
                    stands = tuple(stands_of(chain, pool, budget, place))
                    right = refusal(chain, pool, budget, place) is None
                    self.tells(right, is_closed, chain, pool, budget, place, stands)
                    closed += right
                    # The set of stands_of lies in each: none of it can be left out.
                    for stand in stands[::5]:
                        rest = tuple(other for other in stands if other != stand)
                        self.assertFalse(is_closed(chain, pool, budget, place, rest))
        self.assertGreater(closed, 20)

    def test_good_stands_of_a_rule_that_keeps_to_them(self):
        good = good_stands(PAIR, 8, 6)

        def keep(stand, size):
            return good_places(PAIR, 8, 6, stand, size)[0]

        self.assertTrue(is_closed(PAIR, 8, 6, keep, tuple(good)))
        self.assertIsNone(refusal(PAIR, 8, 6, keep))
        reached = stands_of(PAIR, 8, 6, keep)
        self.assertLessEqual(set(reached), set(good))

    def test_wrong_sets(self):
        right = ((), ((0, 1),), ((0, 1), (1, 1)), ((0, 2),), ((1, 1),))
        self.tells(True, is_closed, PAIR, 4, 2, first(4), right)
        for thing in (
            right[::-1], (*right, ()), (*right, right[-1]), ((), *right), right[1:], right[:-1],
            list(right), (*right, []), (*right, [(3, 1)]), (*right, ([3, 1],)), (*right, None),
            (*right, ((4, 1),)), (*right, ((3, 2),)), (*right, ((1, 1), (1, 1))),
            (*right, ((1, True),)), (*right[:-1], ((True, 1),)), (*right, ((2, 1), (1, 1))),
            (*right, ((2, 1), (3, 1), (3, 1))), ((), ((0, 1),), ((0, 2),), ((0, 1), (1, 1)), ((1, 1),)),
            (*right, ((1, 1), (2, 2))),              # of LIVE above the BUDGET
            (*right, ((2, 2),), ((3, 1),), "a"), ((), *(((0, 1),) for _ in range(3000))),
        ):
            self.tells(False, is_closed, PAIR, 4, 2, first(4), thing)
        for thing in THINGS:
            self.tells(False, is_closed, PAIR, 4, 2, first(4), thing)
            self.tells(False, is_closed, PAIR, 4, 2, first(4), (*right, thing))
            self.tells(False, is_closed, PAIR, 4, 2, first(4), (thing, *right))
            self.tells(False, is_closed, PAIR, 4, 2, first(4), (*right, (thing,)))


class BadAnswers(Case):
    def test_bad_answers(self):
        for answer, kept in (
            (-1, -1), (4, 4), (3, 3), (GREAT, GREAT), (True, True), (False, False), ("0", "0"),
            ((0,), (0,)), ([0], (0,)), ([0, [1]], (0, (1,))), ("", ""), ((), ()),
        ):
            def place(stand, size, answer=answer):
                return answer if size == 2 else first_place(4, stand, size)

            attributes = {"answer": kept}
            self.refuses(BadAnswer, attributes, stands_of, PAIR, 4, 2, place)
            self.refuses(BadAnswer, attributes, refusal, PAIR, 4, 2, place)
            self.refuses(BadAnswer, attributes, fewest_deeds, PAIR, 4, 2, place)
            self.refuses(BadAnswer, attributes, is_refusal, PAIR, 4, 2, place, (("ask", 2),))
            stands = ((), ((0, 1),), ((0, 1), (1, 1)), ((1, 1),))
            self.refuses(BadAnswer, attributes, is_closed, PAIR, 4, 2, place, stands)
            # Where a two can't be asked for, it is not answered.
            self.tells([(), ((0, 1),)], stands_of, PAIR, 4, 1, place)
            self.tells(None, refusal, PAIR, 4, 1, place)
            self.tells(True, is_closed, PAIR, 4, 1, place, ((), ((0, 1),)))

    def test_a_place_that_is_taken(self):
        self.refuses(BadAnswer, {"answer": 1}, stands_of, PAIR, 4, 4, lambda stand, size: 1)
        self.refuses(BadAnswer, {"answer": 0}, stands_of, PAIR, 4, 4, lambda stand, size: 0)
        self.refuses(BadAnswer, {"answer": 0}, is_refusal, PAIR, 4, 4, lambda stand, size: 0,
                     (("ask", 1), ("ask", 1)))

    def test_no_answer_is_asked_for_a_thing_of_another_sort(self):
        def place(stand, size):
            raise AssertionError("the RULE is not asked")

        for thing in (*THINGS, (("ask", 3),), list(ROW)):
            self.tells(False, is_refusal, PAIR, 4, 4, place, thing)
            self.tells(False, is_closed, PAIR, 4, 4, place, thing)


class Good(Case):
    def test_edges(self):
        self.tells([()], good_stands, PAIR, 0, 0)
        self.tells([()], good_stands, PAIR, 4, 0)
        self.tells([], good_stands, PAIR, 0, 1)
        self.tells([(), ((0, 1),)], good_stands, (1,), 1, 1)
        self.tells([], good_stands, (1,), 1, 2)
        self.tells([], good_stands, PAIR, 4, GREAT)
        self.tells(True, some_rule, PAIR, 0, 0)
        self.tells(False, some_rule, PAIR, 0, 1)
        self.tells(False, some_rule, (1,), 12, GREAT)
        self.tells(True, some_rule, (1,), 12, 12)
        self.tells((), good_places, PAIR, 0, 0, (), 1)
        self.tells((), good_places, PAIR, 4, 0, (), 1)
        self.tells((0, 1, 2), good_places, (1,), 3, 3, (), 1)
        self.tells((2,), good_places, (1,), 3, 3, ((0, 1), (1, 1)), 1)
        self.tells((), good_places, (1,), 3, 3, ((0, 1), (1, 1), (2, 1)), 1)

    def test_each_list_is_new(self):
        good_stands(PAIR, 4, 2).clear()
        self.assertGreater(len(good_stands(PAIR, 4, 2)), 5)

    def test_against_all_stands(self):
        for chain, pool in (*SMALL, ((1, 2, 6), 6), ((1, 4), 8)):
            for budget in (0, 1, 2, pool // 2, pool * 2 // 3, pool - 1, pool, pool + 1, GREAT):
                if budget >= 0:
                    self.check(chain, pool, budget)
        self.check((1, 2), 8, 6)
        self.check((1, 3), 9, 5)

    def check(self, chain, pool, budget):
        good = good_by_cells(chain, pool, budget)
        self.assertEqual(good_stands(chain, pool, budget), good)
        self.assertEqual(some_rule(chain, pool, budget), () in good)
        for stand in stands_by_cells(chain, pool)[::11]:
            for size in chain:
                told = tuple(
                    at for at in free_by_cells(pool, stand, size)
                    if with_block(stand, at, size) in good
                )
                self.assertEqual(good_places(chain, pool, budget, stand, size), told)

    def test_called_in_all_ways(self):
        for budget in (0, 3, 6):
            good = good_by_cells(PAIR, 6, budget)
            self.tells(good, good_stands, PAIR, 6, budget)
            self.tells(() in good, some_rule, PAIR, 6, budget)
        self.tells((1, 3, 5), good_places, PAIR, 8, 6, ((0, 1), (2, 1), (4, 1)), 1)
        self.tells((), good_places, PAIR, 6, 6, ((0, 1),), 1)

    def test_pools_of_twelve(self):
        self.assertEqual(len(good_stands((1,), 12, 12)), 4096)
        self.assertEqual(good_stands((1, 2, 4), 12, 12), [])
        self.assertTrue(some_rule(PAIR, 12, 8))
        self.assertFalse(some_rule(PAIR, 10, 8))

    def test_least_for_any(self):
        for chain, budget, least in (
            (PAIR, 0, 0), (PAIR, 1, 2), (PAIR, 2, 2), (PAIR, 3, 4), (PAIR, 4, 6), (PAIR, 8, 12),
            (PAIR, 9, None), (PAIR, GREAT, None), ((1,), 0, 0), ((1,), 12, 12), ((1,), 13, None),
            ((1, 64), 0, 0), ((1, 64), 1, None), ((1, 12), 1, 12), ((1, 12), 13, None),
        ):
            self.tells(least, least_for_any, chain, budget)

    def test_least_for_any_is_the_last_line(self):
        for greatest in range(1, 13):
            for chain in all_chains(greatest):
                for many in range(13 // unit(chain) + 2):
                    bar = least_pool(chain, many * unit(chain))
                    least = least_for_any(chain, many * unit(chain))
                    self.assertEqual(least, bar if bar <= 12 else None)

    def test_least_for_any_goes_by_some_rule(self):
        for chain in ((1,), (1, 2), (1, 2, 4), (1, 3), (1, 4)):
            for budget in range(9):
                pools = [
                    pool for pool in range(0, 13, chain[-1])
                    if () in good_stands(chain, pool, budget)
                ]
                self.tells(pools[0] if pools else None, least_for_any, chain, budget)


if __name__ == "__main__":
    unittest.main()
