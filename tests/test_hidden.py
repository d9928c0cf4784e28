"""A hidden pool [17]."""

import random
import unittest

from lentblocks.errors import AllKnown, BadAnswer, NoNumber, NoSize, NothingDone
from lentblocks.hidden import Survey, surveyed
from tests.cells import deep
from tests.helper import Case, alike, as_lists, outcome, raised, told, walks

CHAIN = (1, 2, 4)
GREAT = 10 ** 30
NONE = told(None)
SMALL = (((1,), 4), ((1, 2), 6), ((1, 2, 4), 8), ((1, 3), 6), ((1, 2, 6), 6), ((1, 4), 8))


def seen(survey):
    """All that can be seen of a Survey."""
    return (
        survey.chain, survey.most, survey.told, survey.out, len(survey), survey.known_free(),
        survey.may_be_free(), tuple(survey.sure(size) for size in survey.chain),
        outcome(survey.next_ask),
    )


def cells(first, size):
    return frozenset(range(first, first + size))


def all_parts(most):
    for bits in range(2 ** most):
        yield frozenset(cell for cell in range(most) if bits >> cell & 1)


class Pools:
    """All POOLS that answer as is told: pairs of the cells free at first, and of those free now."""

    def __init__(self, chain, most):
        self.chain, self.most = chain, most
        self.pools = [(part, part) for part in all_parts(most)]
        self.out = {}

    def slots(self, size, free):
        return [low for low in range(0, self.most, size) if cells(low, size) <= free]

    def asked(self, size, answer):
        """The pairs that answer so."""
        if answer is None:
            return [pair for pair in self.pools if not self.slots(size, pair[1])]
        block = cells(answer, size)
        return [
            (first, now - block) for first, now in self.pools if answer in self.slots(size, now)
        ]

    def ask(self, size, answer):
        self.pools = self.asked(size, answer)
        if answer is not None:
            self.out[answer] = size

    def give(self, first):
        block = cells(first, self.out.pop(first))
        self.pools = [(own, now | block) for own, now in self.pools]

    def seen(self):
        free = [now for _, now in self.pools]
        known = frozenset.intersection(*free)
        maybe = frozenset.union(*free) - known
        sure = []
        for size in self.chain:
            found = {bool(self.slots(size, now)) for now in free}
            sure.append(None if len(found) == 2 else found.pop())
        goals = [size for size, one in zip(self.chain, sure) if one is not False]
        asked = ("told", max(goals)) if maybe else ("raised", "AllKnown", ())
        return (
            tuple(sorted(self.out.items())), tuple(sorted(known)), tuple(sorted(maybe)),
            tuple(sure), asked,
        )


class Rule:
    """A POOL in which only some cells are free, that answers by a choice."""

    def __init__(self, most, free, choose):
        self.most, self.free, self.choose = most, set(free), choose
        self.out = {}

    def ask(self, size):
        slots = [low for low in range(0, self.most, size) if cells(low, size) <= self.free]
        if not slots:
            return None
        first = self.choose(slots)
        self.free -= cells(first, size)
        self.out[first] = size
        return first

    def give(self, first):
        self.free |= cells(first, self.out.pop(first))


class Steps(Case):
    def test_nothing_told(self):
        for chain, most in ((CHAIN, 8), ((1,), 3), ((1, 64), 256)):
            survey = walks(self, Survey, (chain, most), seen, ())[0]
            self.assertTrue(alike(seen(survey), (
                chain, most, (), (), 0, (), tuple(range(most)), (None,) * len(chain),
                told(chain[-1]),
            )))

    def test_no_cells(self):
        for chain in (CHAIN, (1,), (1, 64)):
            survey = walks(self, Survey, (chain, 0), seen, (
                ("next_ask", (), raised(AllKnown)), ("known_free", (), told(())),
                ("may_be_free", (), told(())), ("sure", (1,), told(False)),
                ("ask", (1, 0), raised(BadAnswer, answer=0)), ("ask", (1, None), NONE),
                ("next_ask", (), raised(AllKnown)), ("sure", (chain[-1],), told(False)),
                ("give", (0,), raised(NoNumber, number=0)),
            ))[0]
            self.assertEqual(survey.told, (("ask", 1, None),))

    def test_no_cell_free(self):
        walks(self, Survey, (CHAIN, 8), seen, (
            ("next_ask", (), told(4)), ("ask", (4, None), NONE), ("next_ask", (), told(2)),
            ("ask", (2, None), NONE), ("next_ask", (), told(1)),
            ("may_be_free", (), told(tuple(range(8)))), ("ask", (1, None), NONE),
            ("next_ask", (), raised(AllKnown)), ("known_free", (), told(())),
            ("may_be_free", (), told(())), ("sure", (1,), told(False)),
            ("ask", (1, 3), raised(BadAnswer, answer=3)),
            ("ask", (4, 0), raised(BadAnswer, answer=0)), ("ask", (4, None), NONE),
            ("back", (), NONE), ("back", (), NONE), ("ask", (1, 3), NONE),
            ("may_be_free", (), told((0, 1, 4, 5, 6, 7))),
        ))

    def test_all_cells_free(self):
        walks(self, Survey, (CHAIN, 8), seen, (
            ("ask", (4, 4), NONE), ("next_ask", (), told(4)), ("ask", (4, 0), NONE),
            ("next_ask", (), raised(AllKnown)), ("sure", (1,), told(False)),
            ("known_free", (), told(())), ("may_be_free", (), told(())),
            ("give", (4,), NONE), ("known_free", (), told((4, 5, 6, 7))),
            ("next_ask", (), raised(AllKnown)), ("sure", (4,), told(True)),
            ("ask", (4, None), raised(BadAnswer, answer=None)),
            ("ask", (1, None), raised(BadAnswer, answer=None)), ("ask", (2, 6), NONE),
            ("sure", (4,), told(False)), ("sure", (2,), told(True)),
            ("ask", (2, None), raised(BadAnswer, answer=None)), ("ask", (4, None), NONE),
            ("known_free", (), told((4, 5))),
        ))

    def test_wrong_answers(self):
        walks(self, Survey, (CHAIN, 8), seen, (
            ("ask", (2, 2), NONE),
            ("ask", (2, 3), raised(BadAnswer, answer=3)),
            ("ask", (4, 2), raised(BadAnswer, answer=2)),
            ("ask", (4, 8), raised(BadAnswer, answer=8)),
            ("ask", (1, 8), raised(BadAnswer, answer=8)),
            ("ask", (1, -1), raised(BadAnswer, answer=-1)),
            ("ask", (4, -4), raised(BadAnswer, answer=-4)),
            ("ask", (1, GREAT), raised(BadAnswer, answer=GREAT)),
            ("ask", (4, 4 * GREAT), raised(BadAnswer, answer=4 * GREAT)),
            ("ask", (1, -GREAT), raised(BadAnswer, answer=-GREAT)),
            ("ask", (2, 2), raised(BadAnswer, answer=2)),
            ("ask", (1, 3), raised(BadAnswer, answer=3)),
            ("ask", (4, 0), raised(BadAnswer, answer=0)),
            ("ask", (4, 4), NONE),
            ("ask", (1, 4), raised(BadAnswer, answer=4)),
            ("ask", (1, 7), raised(BadAnswer, answer=7)),
            ("give", (4,), NONE),
            ("ask", (4, None), raised(BadAnswer, answer=None)),
        ))

    def test_no_size_ahead_of_a_bad_answer(self):
        for size in (3, 0, -1, 8, GREAT):
            for answer in (None, 0, 1, -1, 99):
                walks(self, Survey, (CHAIN, 8), seen, (
                    ("ask", (2, 2), NONE), ("ask", (size, answer), raised(NoSize, size=size)),
                    ("sure", (size,), raised(NoSize, size=size)), ("back", (), NONE),
                    ("back", (), raised(NothingDone)),
                ))

    def test_nothing_to_give_or_to_take_back(self):
        walks(self, Survey, (CHAIN, 8), seen, (
            ("back", (), raised(NothingDone)), ("give", (0,), raised(NoNumber, number=0)),
            ("ask", (4, 0), NONE), ("give", (4,), raised(NoNumber, number=4)),
            ("give", (1,), raised(NoNumber, number=1)),
            ("give", (-1,), raised(NoNumber, number=-1)),
            ("give", (GREAT,), raised(NoNumber, number=GREAT)), ("give", (0,), NONE),
            ("give", (0,), raised(NoNumber, number=0)), ("back", (), NONE), ("give", (0,), NONE),
            ("back", (), NONE), ("back", (), NONE), ("back", (), raised(NothingDone)),
        ))

    def test_a_refusal_tells_of_slots_without_a_block_that_is_out(self):
        # The slots of 4 at 0 and of 2 at 2 are not free as long as the cell 2 is out.
        survey = walks(self, Survey, (CHAIN, 8), seen, (
            ("ask", (1, 2), NONE), ("ask", (4, None), NONE), ("ask", (2, None), NONE),
            ("may_be_free", (), told((0, 1, 3, 4, 5, 6, 7))), ("give", (2,), NONE),
            ("sure", (2,), told(None)), ("sure", (4,), told(False)), ("sure", (1,), told(True)),
            ("ask", (2, 2), NONE), ("may_be_free", (), told((0, 1, 4, 5, 6, 7))),
            ("ask", (2, 0), raised(BadAnswer, answer=0)),
            ("ask", (2, 4), raised(BadAnswer, answer=4)), ("ask", (1, 0), NONE),
            ("may_be_free", (), told((4, 5, 6, 7))), ("ask", (1, 1), raised(BadAnswer, answer=1)),
            ("known_free", (), told(())), ("next_ask", (), told(1)),
        ))[0]
        self.assertEqual(survey.out, ((0, 1), (2, 2)))
        self.assertEqual(survey.told, (
            ("ask", 1, 2), ("ask", 4, None), ("ask", 2, None), ("back", 2), ("ask", 2, 2),
            ("ask", 1, 0),
        ))

    def test_what_is_refused_is_kept_size_by_size(self):
        # As 2 is refused, a cell of each slot of 2 is out; that of 4 was refused before.
        for more in ((), (("ask", (1, None), NONE), ("back", (), NONE))):
            walks(self, Survey, (CHAIN, 4), seen, (
                ("ask", (4, None), NONE), ("ask", (1, 0), NONE), ("ask", (1, 2), NONE),
                ("ask", (2, None), NONE), *more, ("may_be_free", (), told((1, 3))),
                ("ask", (1, 1), NONE), ("may_be_free", (), told(())),
                ("ask", (1, 3), raised(BadAnswer, answer=3)), ("next_ask", (), raised(AllKnown)),
                ("back", (), NONE), ("ask", (1, 3), NONE), ("next_ask", (), raised(AllKnown)),
            ))
        # The same with the greatest size refused last.
        walks(self, Survey, (CHAIN, 4), seen, (
            ("ask", (2, None), NONE), ("ask", (4, None), NONE), ("ask", (1, 1), NONE),
            ("may_be_free", (), told((2, 3))), ("ask", (1, 2), NONE),
            ("next_ask", (), raised(AllKnown)),
        ))

    def test_next_ask_may_be_sure(self):
        walks(self, Survey, (CHAIN, 8), seen, (
            ("ask", (4, 0), NONE), ("ask", (4, None), NONE), ("next_ask", (), told(2)),
            ("give", (0,), NONE), ("sure", (4,), told(True)), ("next_ask", (), told(4)),
        ))


class Objects(Case):
    def made(self):
        survey = Survey(CHAIN, 8)
        survey.ask(4, 4)
        survey.ask(4, None)
        survey.give(4)
        survey.ask(1, 6)
        return survey

    def test_equal(self):
        one, other = self.made(), self.made()
        self.assertTrue(one == other)
        self.assertFalse(one != other)
        for change in (
            lambda: other.back(), lambda: other.ask(1, 7), lambda: other.ask(4, None),
            lambda: other.give(6),
        ):
            other = self.made()
            change()
            self.assertFalse(one == other)
            self.assertTrue(one != other)
        # The same is out and free, but other deeds are told.
        other = self.made()
        other.ask(1, 7)
        other.give(7)
        self.assertFalse(one == other)
        self.assertFalse(other == one)
        for values in ((CHAIN, 12), (CHAIN, 4), ((1, 4), 8), ((1,), 8), ((1, 2, 4, 8), 8)):
            self.assertFalse(Survey(CHAIN, 8) == Survey(*values))
            self.assertTrue(Survey(*values) != Survey(CHAIN, 8))
        self.assertTrue(Survey(list(CHAIN), 8) == Survey(CHAIN, 8))
        for thing in (None, 0, "", (), CHAIN, (CHAIN, 8, ()), [], {}, Survey, object()):
            self.assertFalse(Survey(CHAIN, 8) == thing)
            self.assertTrue(Survey(CHAIN, 8) != thing)
            self.assertFalse(thing == Survey(CHAIN, 8))

    def test_twin(self):
        one = self.made()
        other = one.twin()
        self.assertIs(type(other), Survey)
        self.assertIsNot(one, other)
        self.assertTrue(alike(seen(one), seen(other)))
        before = seen(one)
        other.ask(1, 7)
        self.assertTrue(alike(seen(one), before))
        other.back()
        self.assertTrue(one == other)
        one.give(6)
        self.assertTrue(alike(seen(other), before))
        for _ in range(4):
            other.back()
        self.assertEqual(outcome(other.back), raised(NothingDone))
        self.assertTrue(alike(seen(other), seen(Survey(CHAIN, 8))))
        self.assertEqual(len(one), 5)

    def test_no_setters_and_no_iteration(self):
        survey = self.made()
        before = seen(survey)
        for name in ("chain", "most", "told", "out"):
            self.assertIsInstance(vars(Survey)[name], property)
            with self.assertRaises(AttributeError):
                setattr(survey, name, getattr(survey, name))
        for call in (
            lambda: iter(survey), lambda: list(survey), lambda: [one for one in survey],
            lambda: dict(survey), lambda: sorted(survey),
        ):
            with self.assertRaises(TypeError):
                call()
        self.assertTrue(alike(seen(survey), before))

    def test_what_is_handed_in_is_copied(self):
        chain = [1, 2, 4]
        survey = Survey(chain, 8)
        survey.ask(4, None)
        before = seen(survey)
        chain[:] = [1, 8]
        self.assertTrue(alike(seen(survey), before))
        self.assertEqual(survey.chain, CHAIN)

    def test_asking_changes_nothing(self):
        survey = self.made()
        before = seen(survey)
        for _ in range(3):
            self.assertTrue(alike(seen(survey), before))
        self.assertIsNone(survey.ask(1, None) if survey.sure(1) is False else None)


class AgainstAllPools(Case):
    def test_random_deeds(self):
        for chain, most in SMALL:
            for seed in range(12):
                self.go(chain, most, random.Random(seed))

    def go(self, chain, most, choice):
        """Deeds of a POOL by chance; each time all answers that it could give are tried."""
        free = [cell for cell in range(most) if choice.random() < choice.choice((0.3, 0.7, 1))]
        rule = Rule(most, free, choice.choice)
        survey, pools = Survey(chain, most), Pools(chain, most)
        for _ in range(14):
            self.try_all(survey, pools)
            if rule.out and choice.random() < 0.4:
                first = choice.choice(sorted(rule.out))
                for one in (rule, survey, pools):
                    one.give(first)
            else:
                size = choice.choice(chain)
                answer = rule.ask(size)
                survey.ask(size, answer)
                pools.ask(size, answer)
            now = (
                survey.out, survey.known_free(), survey.may_be_free(),
                tuple(survey.sure(size) for size in chain), outcome(survey.next_ask),
            )
            self.assertTrue(alike(now, pools.seen()), (survey.told, now, pools.seen()))

    def try_all(self, survey, pools):
        for size in survey.chain:
            for answer in (None, *range(-1, survey.most + 1)):
                right = bool(pools.asked(size, answer))
                before = len(survey)
                found = outcome(lambda: survey.ask(size, answer))
                self.assertEqual(
                    found, told(None) if right else raised(BadAnswer, answer=answer),
                    (survey.told, size, answer))
                self.assertEqual(len(survey), before + right)
                if right:
                    survey.back()


class Ends(Case):
    def test_next_ask_ends(self):
        for chain, most in (*SMALL, ((1, 2, 4, 8, 16, 32), 64), ((1, 3, 12), 36)):
            for seed in range(8):
                choice = random.Random(seed)
                free = [cell for cell in range(most) if choice.random() < 0.6]
                rule = Rule(most, free, choice.choice)
                survey = Survey(chain, most)
                while outcome(survey.next_ask)[0] == "told":
                    size = survey.next_ask()
                    survey.ask(size, rule.ask(size))
                self.assertEqual(survey.may_be_free(), ())
                got = sorted(cell for one in survey.out for cell in cells(*one))
                self.assertEqual(got, free)
                for first, _ in survey.out:
                    survey.give(first)
                self.assertEqual(survey.known_free(), tuple(free))

    def test_256_cells_and_200_deeds(self):
        chain, most = (1, 2, 4, 8, 16, 32), 256
        survey, rule = Survey(chain, most), Rule(most, range(0, 256, 1), max)
        for lap in range(100):
            size = chain[lap % 6]
            survey.ask(size, rule.ask(size))
            if lap % 3:
                first = survey.out[-1][0]
                survey.give(first)
                rule.give(first)
            seen(survey)
        while len(survey):
            survey.back()
        self.assertTrue(alike(seen(survey), seen(Survey(chain, most))))


class Surveyed(Case):
    def test_each_pool_by_several_rules(self):
        for chain, most in SMALL:
            for free in all_parts(most):
                for choose in (min, max, random.Random(1).choice):
                    self.assertEqual(
                        surveyed(chain, most, Rule(most, free, choose).ask), tuple(sorted(free)))

    def test_in_all_ways(self):
        for free, told_asks in (
            ((), [4, 2, 1]), ((1, 2, 3, 6), [4, 2, 2, 1, 1, 1]), (range(8), [4, 4, 4, 2, 1]),
            ((4, 5, 6, 7), [4, 4, 2, 1]), ((0,), [4, 2, 1, 1]),
        ):
            for chain in (CHAIN, as_lists(CHAIN)):
                for call in (
                    lambda asker: surveyed(chain, 8, asker),
                    lambda asker: surveyed(chain=chain, most=8, asker=asker),
                ):
                    rule, asked = Rule(8, free, min), []

                    def asker(size):
                        asked.append(size)
                        return rule.ask(size)

                    self.assertTrue(alike(call(asker), tuple(free)))
                    self.assertEqual(asked, told_asks)

    def test_no_cells(self):
        asked = []
        self.assertEqual(surveyed(CHAIN, 0, asked.append), ())
        self.assertEqual(asked, [4, 2, 1])

    def test_bad_answers(self):
        for answers, answer in (
            ((1,), 1), ((8,), 8), ((-4,), -4), ((-1,), -1), ((GREAT,), GREAT), ((4, 4), 4),
            ((4, 0, 0), 0), ((None, 0, 2), 2), ((None, 0, 0), 0), ((4, None, 1), 1),
            ((None, None, 0, 1), 1), ((None, 0, None, 2, 3), 3), ((4, None, 6), 6),
            ((True,), True), ((False,), False), (("0",), "0"), (("",), ""), (((),), ()),
            (((0,),), (0,)), (([0, [1]],), (0, (1,))), (([],), ()), ((None, True), True),
            ((deep(0, 12),), deep(0, 12)), ((None, None, None, 1), None),
        ):
            left = list(answers)
            found = outcome(lambda: surveyed(CHAIN, 8, lambda size: left.pop(0)))
            if answer is None:
                self.assertEqual((found, left), (told(()), [1]))
                continue
            self.assertTrue(alike(found, raised(BadAnswer, answer=answer)), (answers, found))
            # Nothing is asked behind it.
            self.assertEqual(left, [])

    def test_what_asker_raises_is_passed_on(self):
        class Own(Exception):
            pass

        for error in (Own("x"), KeyError(1), ValueError("no"), NoSize(5), BadAnswer(7)):
            for many in range(3):
                replies = [4, None, 0, None][:many]

                def asker(size):
                    if not replies:
                        raise error
                    return replies.pop(0)

                with self.assertRaises(type(error)) as caught:
                    surveyed(CHAIN, 8, asker)
                self.assertIs(caught.exception, error)

    def test_256_cells(self):
        for chain in ((1,), (1, 2, 4, 8, 16, 32), (1, 64)):
            for free in (range(256), range(0, 256, 2), range(1, 255), ()):
                self.assertEqual(
                    surveyed(chain, 256, Rule(256, free, max).ask), tuple(free))


if __name__ == "__main__":
    unittest.main()
