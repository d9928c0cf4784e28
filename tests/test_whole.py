"""What holds over the whole program [1], [2], [3]: things of all sorts, and its parts together."""

import ast
import pathlib
import random
import unittest

from lentblocks.board import Board
from lentblocks.bound import full_stand, is_full_stand, least_pool, over_lines, unit
from lentblocks.chains import is_chain
from lentblocks.changes import Watch
from lentblocks.desk import answers
from lentblocks.first import first_place, first_places, first_pool, first_stands, serves_first
from lentblocks.hidden import Survey, surveyed
from lentblocks.moving import best_moves, fits, is_best_moves, is_laid, is_moves, laid
from lentblocks.opponents import opponent
from lentblocks.pools import all_partings, best_parting, is_best_parting, is_parting, pool_for
from lentblocks.reach import fewest_deeds, is_closed, is_refusal, refusal, stands_of
from lentblocks.rounding import beaten_by, is_beaten_by
from lentblocks.rows import asks_of, height, is_places, is_row, stands_by
from lentblocks.rules import is_written, place_by, places_by, pool_by
from lentblocks.stands import free_blocks, greatest_fit, holes, is_block, is_stand, live, put
from lentblocks.surely import are_sure, is_refused_order, refused_order, sure_cells
from lentblocks.texts import numbers_from, numbers_text, row_from, row_text, stand_from, stand_text
from lentblocks.waste import back_blocks, is_back, least_back, stuck_sizes
from tests.cells import THINGS, random_row, stands_by_cells
from tests.helper import as_lists

CHAIN = (1, 2, 4)
STAND = ((0, 1), (2, 1), (4, 2), (8, 1))
ROW = (("ask", 1), ("ask", 1), ("ask", 2), ("back", 0), ("back", 1), ("ask", 4))
ORDERS = ((3, 2, 1, 0), (2, 0), (0,))
PACKAGE = pathlib.Path(__file__).parent.parent / "lentblocks"


def by_first(stand, size):
    return first_place(4, stand, size)


# For each function with a thing: arguments, and a thing for which it is True.
RIGHT = [
    (is_chain, (), CHAIN),
    (is_chain, (), (1,)),
    (is_block, (CHAIN,), (4, 2)),
    (is_block, (CHAIN,), (0, 1)),
    (is_stand, (CHAIN, 12), STAND),
    (is_row, (CHAIN,), ROW),
    (is_places, (CHAIN, 12, ROW), first_places(CHAIN, 12, ROW)),
    (is_full_stand, (CHAIN, 8, 4), full_stand(CHAIN, 8, 4)),
    (is_written, (CHAIN, 4), ("table", ORDERS)),
    (is_written, (CHAIN, 4), "wide"),
    (is_refusal, ((1, 2), 4, 4, by_first), refusal((1, 2), 4, 4, by_first)),
    (is_closed, ((1, 2), 4, 1, by_first), tuple(stands_of((1, 2), 4, 1, by_first))),
    (is_laid, (CHAIN, 12, STAND, (2, 1, 1)), laid(CHAIN, 12, STAND, (2, 1, 1))),
    (is_moves, (CHAIN, 12, STAND, (4, 2)), best_moves(CHAIN, 12, STAND, (4, 2))),
    (is_best_moves, (CHAIN, 12, STAND, (4, 2)), best_moves(CHAIN, 12, STAND, (4, 2))),
    (is_beaten_by, ((1, 2, 6), 6, 8), beaten_by((1, 2, 6), 6, 8)),
    (is_refused_order, (CHAIN, 12, STAND, (2, 2, 1)), refused_order(CHAIN, 12, STAND, (2, 2, 1))),
    (is_back, (12, STAND, 4), back_blocks(12, STAND, 4)),
    (is_parting, (CHAIN,), ((1, 4), (2,))),
    (is_best_parting, (CHAIN, 16, 30), best_parting(CHAIN, 16, 30)),
]


def parts_of(thing, way=()):
    """All parts of a thing, the thing itself among them, each with the way to it."""
    found = [(way, thing)]
    if isinstance(thing, (tuple, list)):
        for at, part in enumerate(thing):
            found += parts_of(part, (*way, at))
    return found


def with_part(thing, way, part):
    """The thing with another part at the end of the way."""
    if not way:
        return part
    inner = list(thing)
    inner[way[0]] = with_part(thing[way[0]], way[1:], part)
    return type(thing)(inner)


class Things(unittest.TestCase):
    def is_told(self, function, values, thing, told=None):
        found = function(*values, thing)
        self.assertIsInstance(found, bool, (function.__name__, thing))
        if told is not None:
            self.assertIs(found, told, (function.__name__, values, thing))

    def test_each_function_with_a_thing_is_here(self):
        named = set()
        for path in PACKAGE.glob("*.py"):
            for node in ast.parse(path.read_text()).body:
                if isinstance(node, ast.FunctionDef) and not node.name.startswith("_"):
                    if [one.arg for one in node.args.args][-1:] == ["thing"]:
                        named.add(node.name)
        here = {function.__name__ for function, _, _ in RIGHT}
        self.assertEqual(named - {"is_number", "is_number_tuple", "as_tuples"}, here)

    def test_right_ones(self):
        for function, values, thing in RIGHT:
            self.is_told(function, values, thing, True)
            self.is_told(function, as_lists(list(values)), thing, True)

    def test_a_list_is_no_tuple_and_true_is_no_number(self):
        for function, values, thing in RIGHT:
            for way, part in parts_of(thing):
                if isinstance(part, tuple):
                    self.is_told(function, values, with_part(thing, way, list(part)), False)
                if part in (0, 1) and not isinstance(part, bool):
                    self.is_told(function, values, with_part(thing, way, bool(part)), False)
            self.is_told(function, values, as_lists(thing), isinstance(thing, str))

    def test_other_parts(self):
        for function, values, thing in RIGHT:
            for way, part in parts_of(thing):
                for other in (*THINGS, (part,), [part], (part, part), str(part)):
                    self.is_told(function, values, with_part(thing, way, other))
                if isinstance(part, tuple):
                    for at in range(len(part) + 1):
                        for more in THINGS:
                            self.is_told(function, values, with_part(
                                thing, way, (*part[:at], more, *part[at:])))
                        self.is_told(function, values, with_part(
                            thing, way, part[:at] + part[at + 1:]))
                    self.is_told(function, values, with_part(thing, way, part[::-1]))
                    self.is_told(function, values, with_part(thing, way, part * 500))

    def test_things_by_themselves(self):
        for function, values, _ in RIGHT:
            for thing in THINGS:
                self.is_told(function, values, thing)
                for number in (thing, (thing, thing), ("table", thing), (thing, 1), ((0, thing),)):
                    self.is_told(function, values, number)


class Together(unittest.TestCase):
    def test_all_rows_of_a_budget(self):
        """(a): in the least POOL of an even BUDGET first place refuses no ask, whatever the ROW."""
        for chain in ((1, 2), CHAIN, (1, 3), (1, 2, 6)):
            budget = unit(chain)
            pool = least_pool(chain, budget)
            for seed in range(25):
                row = random_row(chain, budget, 80, seed)
                self.assertLessEqual(height(row), budget)
                self.assertTrue(serves_first(chain, pool, row))
                self.assertLessEqual(first_pool(chain, row), pool)
                for word in ("first", "last"):
                    self.assertEqual(pool_by(word, chain, row[:60]), first_pool(chain, row[:60]))
                for stand in first_stands(chain, pool, row):
                    self.assertEqual(over_lines(chain, budget, stand), ())

    def test_no_rule_does_with_less(self):
        """(b): below it each RULE is refused something by the opponent."""
        for chain in ((1, 2), CHAIN, (1, 3)):
            budget = unit(chain)
            pool = least_pool(chain, budget) - chain[-1]
            for word in ("first", "last", "tight", "wide"):
                row, places, end = opponent(
                    chain, budget, pool, lambda stand, size: place_by(word, chain, pool, stand, size))
                self.assertEqual(end, "refused")
                self.assertEqual(len(places), len(asks_of(row)) - 1)
                self.assertLessEqual(height(row), budget)

    def test_least_pools_of_parts(self):
        for chain in ((1, 2), CHAIN, (1, 3, 6)):
            budget = chain[-1] ** 2
            self.assertEqual(pool_for(chain, budget), least_pool(chain, budget))
            for parts in all_partings(chain):
                for part in parts:
                    for seed in range(5):
                        row = random_row(part, budget, 60, seed)
                        self.assertTrue(serves_first(chain, pool_for(part, budget), row))

    def test_a_watch_and_a_board_play_rows_as_first_place_does(self):
        for seed in range(20):
            row = random_row(CHAIN, 12, 50, seed)
            pool = first_pool(CHAIN, row)
            places = first_places(CHAIN, pool, row)
            watch, board, lines, told = Watch(CHAIN, pool), Board(), [f"pool p {pool} 1 2 4"], ["done"]
            board.put("p", CHAIN, pool)
            left = list(places)
            for (word, number), stand in zip(row, stands_by(CHAIN, pool, row, places)):
                lines += [f"ask p {number}" if word == "ask" else f"give p {places[number]}", "stand p"]
                if word == "ask":
                    first = left.pop(0)
                    self.assertEqual((watch.ask(number), board.ask("p", number)), (first, first))
                    told.append(str(first))
                else:
                    watch.give(places[number])
                    board.give("p", places[number])
                    told.append("done")
                self.assertEqual((watch.stand, board["p"]), (stand, (CHAIN, pool, stand)))
                self.assertEqual(stand_from(stand_text(stand)), stand)
                told.append(stand_text(stand))
            self.assertEqual(watch.height(), height(row))
            self.assertEqual(answers("\n".join(lines)), told)
            self.assertEqual(row_from(row_text(row)), row)
            self.assertEqual(numbers_from(numbers_text(places)), places)
            self.assertEqual(places_by("first", CHAIN, pool, row), places)

    def test_a_survey_of_what_a_stand_leaves_free(self):
        for stand in stands_by_cells(CHAIN, 8)[::3]:
            now = {0: stand}

            def asker(size):
                first = first_place(8, now[0], size)
                if first is not None:
                    now[0] = put(8, now[0], first, size)
                    survey.ask(size, first)
                else:
                    survey.ask(size, None)
                return first

            survey = Survey(CHAIN, 8)
            free = [cell for first, length in holes(8, stand) for cell in range(first, first + length)]
            self.assertEqual(surveyed(CHAIN, 8, asker), tuple(free))
            self.assertEqual(survey.may_be_free(), ())
            # The greatest first: these are the fewest BLOCKS, too.
            self.assertEqual(survey.out, free_blocks(CHAIN, 8, stand))

    def test_one_stand_asked_by_several_files(self):
        choice = random.Random(5)
        stands = stands_by_cells(CHAIN, 8)
        for stand in stands[::4]:
            sizes = tuple(choice.choice(CHAIN) for _ in range(choice.randrange(4)))
            if are_sure(CHAIN, 8, stand, sizes):
                self.assertTrue(fits(CHAIN, 8, stand, sizes))
            for size in CHAIN:
                one = (first_place(8, stand, size), least_back(8, stand, size))
                self.assertEqual(one[0] is None, one[1] > 0)
                self.assertEqual(fits(CHAIN, 8, stand, (size,)), one[0] is not None)
                self.assertEqual(are_sure(CHAIN, 8, stand, (size,)), one[0] is not None)
                stuck = one[0] is None and 8 - live(stand) >= size
                self.assertEqual(size in stuck_sizes(CHAIN, 8, stand), stuck)
            fit = greatest_fit(CHAIN, 8, stand)
            self.assertEqual(fit is None, live(stand) == 8)
            self.assertLessEqual(sure_cells(CHAIN, 8, stand), 8 - live(stand))

    def test_gone_through_and_played(self):
        for pool, many in ((4, 5), (6, None)):
            self.assertEqual(
                fewest_deeds((1, 2), pool, 4, lambda stand, size: first_place(pool, stand, size)), many)


if __name__ == "__main__":
    unittest.main()
