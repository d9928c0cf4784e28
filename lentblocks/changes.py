"""A POOL that lends: BLOCKS are lent by first place, and what was done can be taken back."""

from lentblocks.chains import place_of
from lentblocks.errors import NothingDone
from lentblocks.first import lent
from lentblocks.kinds import as_pairs
from lentblocks.stands import last_end, live, taken


class Watch:
    """A POOL with its STANDS, from the one at the beginning to the one now."""

    def __init__(self, chain, pool, stand=()):
        self._chain = tuple(chain)
        self._pool = pool
        self._stands = [as_pairs(stand)]
        self._told = []

    @property
    def chain(self):
        """The CHAIN."""
        return self._chain

    @property
    def pool(self):
        """The POOL."""
        return self._pool

    @property
    def stand(self):
        """The STAND as it is now."""
        return self._stands[-1]

    @property
    def told(self):
        """What the deeds that are not taken back returned, in order."""
        return tuple(self._told)

    def __len__(self):
        return len(self._told)

    def __eq__(self, other):
        return (
            isinstance(other, Watch) and self._chain == other._chain
            and self._pool == other._pool and self._stands[-1] == other._stands[-1]
            and self._told == other._told
        )

    def _do(self, answer, stand):
        """Keep what a deed returns, and the STAND behind it."""
        self._told.append(answer)
        self._stands.append(stand)

    def ask(self, size):
        """Lend a BLOCK of this size: its first cell, or None if there is no place."""
        place_of(self._chain, size)
        first, stand = lent(self._pool, self._stands[-1], size)
        self._do(first, stand)
        return first

    def give(self, first):
        """The BLOCK that begins at this cell goes back: its size."""
        stand = taken(self._stands[-1], first)
        size = live(self._stands[-1]) - live(stand)
        self._do(size, stand)
        return size

    def back(self):
        """Take back the last deed that is not taken back."""
        if len(self._told) == 0:
            raise NothingDone()
        self._told.pop()
        self._stands.pop()

    def twin(self):
        """An equal Watch with the same deeds to take back and the same beginning."""
        other = Watch(self._chain, self._pool)
        other._stands = list(self._stands)
        other._told = list(self._told)
        return other

    def live(self):
        """The LIVE of the STAND as it is now."""
        return live(self._stands[-1])

    def height(self):
        """The greatest LIVE of all STANDS so far."""
        return max([live(stand) for stand in self._stands])

    def reach(self):
        """The greatest end of a BLOCK of all STANDS so far."""
        return max([last_end(stand) for stand in self._stands])

    def refused(self):
        """How many deeds that are not taken back returned None."""
        return self._told.count(None)
