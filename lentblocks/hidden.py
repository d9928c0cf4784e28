"""A hidden POOL, of which only what it answers to wishes tells which cells are free.

A number stands for many cells: each of its binary digits for one, the lowest for the cell 0.
"""

from lentblocks.chains import place_of
from lentblocks.errors import AllKnown, BadAnswer, NothingDone
from lentblocks.kinds import as_tuples, is_number
from lentblocks.stands import is_place, taken


def _cells(first, size):
    """The cells of a slot or a BLOCK."""
    return ((1 << size) - 1) << first


def _cells_of(blocks):
    """The cells of all these BLOCKS."""
    return sum([_cells(first, size) for first, size in blocks])


def _told_cells(most, cells):
    """The cells as an ascending tuple."""
    return tuple([cell for cell in range(most) if cells & _cells(cell, 1) != 0])


class Survey:
    """What is told of a hidden POOL.

    Each state is a triple: the BLOCKS that are out; the cells that were lent at some time, so
    that they were free at first; and for each size the first cells of its slots that were
    refused, so that not all of their cells were free at first.
    """

    def __init__(self, chain, most):
        self._chain = tuple(chain)
        self._most = most
        self._told = []
        self._states = [((), 0, tuple([0 for _ in chain]))]

    @property
    def chain(self):
        """The CHAIN."""
        return self._chain

    @property
    def most(self):
        """How many cells the POOL has."""
        return self._most

    @property
    def told(self):
        """The deeds that are not taken back, in order."""
        return tuple(self._told)

    @property
    def out(self):
        """The BLOCKS that are out, ascending."""
        return self._states[-1][0]

    def __len__(self):
        return len(self._told)

    def __eq__(self, other):
        return (
            isinstance(other, Survey) and self._chain == other._chain
            and self._most == other._most and self._told == other._told
        )

    def _do(self, deed, state):
        """Keep a deed and the state behind it."""
        self._told.append(deed)
        self._states.append(state)

    def _slots(self, size):
        """The first cells of the slots of this size in which nothing is out."""
        out, _, _ = self._states[-1]
        return [at for at in range(0, self._most, size) if is_place(self._most, out, size, at)]

    def _can_be_free(self, first, size):
        """Whether all cells of this slot may have been free at first, as far as it is told.

        The POOL with the fewest cells that answers as told had free at first just what was lent:
        so it is asked whether a slot that was refused would be free with this one beside those.
        """
        _, lent, refused = self._states[-1]
        cells = _cells(first, size)
        for own, firsts in zip(self._chain, refused):
            slot = _cells(first // own * own, own)
            if own <= size and firsts & cells != 0:
                return False
            if own > size and firsts & slot != 0 and (lent | cells) & slot == slot:
                return False
        return True

    def _lend(self, size, answer):
        """The state behind a BLOCK that was got; raises BadAnswer."""
        out, lent, refused = self._states[-1]
        if not is_place(self._most, out, size, answer) or not self._can_be_free(answer, size):
            raise BadAnswer(answer)
        now = tuple(sorted([*out, (answer, size)]))
        return (now, lent | _cells(answer, size), refused)

    def _refuse(self, size):
        """The state behind a wish that was refused; raises BadAnswer."""
        if self.sure(size) is True:
            raise BadAnswer(None)
        out, lent, refused = self._states[-1]
        slots = sum([_cells(first, 1) for first in self._slots(size)])
        at = place_of(self._chain, size)
        return (out, lent, (*refused[:at], refused[at] | slots, *refused[at + 1:]))

    def ask(self, size, answer):
        """A wish was asked: it got the BLOCK that begins with answer, or None."""
        place_of(self._chain, size)
        state = self._refuse(size) if answer is None else self._lend(size, answer)
        self._do(("ask", size, answer), state)

    def give(self, first):
        """The BLOCK that is out and begins there was given back."""
        out, lent, refused = self._states[-1]
        self._do(("back", first), (taken(out, first), lent, refused))

    def back(self):
        """Take back the last deed that is not taken back."""
        if len(self._told) == 0:
            raise NothingDone()
        self._told.pop()
        self._states.pop()

    def twin(self):
        """An equal Survey with the same deeds to take back."""
        other = Survey(self._chain, self._most)
        other._told = list(self._told)
        other._states = list(self._states)
        return other

    def _known(self):
        """The cells that are free now in every POOL that answers as is told."""
        out, lent, _ = self._states[-1]
        return lent & ~_cells_of(out)

    def known_free(self):
        """The cells that are free now in every POOL that answers as is told."""
        return _told_cells(self._most, self._known())

    def may_be_free(self):
        """The cells that are free now in some, not in all POOLS that answer as is told."""
        _, lent, _ = self._states[-1]
        return tuple([
            cell for cell in range(self._most)
            if lent & _cells(cell, 1) == 0 and self._can_be_free(cell, 1)
        ])

    def sure(self, size):
        """Whether a wish of this size would be served now; None if that is not known."""
        place_of(self._chain, size)
        slots = self._slots(size)
        known = self._known()
        if any([known & _cells(first, size) == _cells(first, size) for first in slots]):
            return True
        return None if any([self._can_be_free(first, size) for first in slots]) else False

    def next_ask(self):
        """The greatest size that may be served; raises AllKnown if nothing is left to be known."""
        if len(self.may_be_free()) == 0:
            raise AllKnown()
        return max([size for size in self._chain if self.sure(size) is not False])


def surveyed(chain, most, asker):
    """The set of the cells that were free at first, as asker answers."""
    survey = Survey(chain, most)
    lent = 0
    for size in survey.chain[::-1]:
        answer = asker(size)
        while answer is not None:
            if not is_number(answer):
                raise BadAnswer(as_tuples(answer))
            survey.ask(size, answer)
            lent = lent | _cells(answer, size)
            answer = asker(size)
        survey.ask(size, None)
    return _told_cells(most, lent)
