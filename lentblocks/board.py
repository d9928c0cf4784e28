"""A board of POOLS, each with a NAME, a CHAIN and a STAND."""

from lentblocks.chains import place_of
from lentblocks.errors import Known, NoPool, NothingDone
from lentblocks.first import first_place, lent
from lentblocks.stands import live, taken


class Board:
    """POOLS by their NAMEs, and the deeds that can be undone.

    A dict of the POOLS is never changed once it is kept: each deed keeps a new one.
    """

    def __init__(self):
        self._pools = {}
        self._past = []

    @property
    def names(self):
        """The set of the NAMEs."""
        return tuple(sorted(list(self._pools)))

    @property
    def deeds(self):
        """How many deeds can be undone now."""
        return len(self._past)

    def __len__(self):
        return len(self._pools)

    def __contains__(self, x):
        return x in self._pools

    def __getitem__(self, at):
        return self._found(at)

    def __iter__(self):
        raise TypeError("a board is not iterated over")

    def __eq__(self, other):
        return isinstance(other, Board) and self._pools == other._pools

    def _found(self, name):
        """The CHAIN, the POOL and the STAND with this NAME; raises NoPool."""
        if name not in self._pools:
            raise NoPool(name)
        return self._pools[name]

    def _check_new(self, name):
        """Raise Known(name) if there is a POOL with this NAME."""
        if name in self._pools:
            raise Known(name)

    def _do(self, name, changed):
        """Keep a deed: the POOL with this NAME goes, those of the dict changed come."""
        pools = {own: self._pools[own] for own in self._pools if own != name}
        pools.update(changed)
        self._past.append(self._pools)
        self._pools = pools

    def put(self, name, chain, pool):
        """One POOL more, with nothing out."""
        self._check_new(name)
        self._do(name, {name: (tuple(chain), pool, ())})

    def drop(self, name):
        """The POOL goes."""
        self._found(name)
        self._do(name, {})

    def rename(self, name, new):
        """The POOL has the NAME new from now on."""
        found = self._found(name)
        self._check_new(new)
        self._do(name, {new: found})

    def ask(self, name, size):
        """Lend a BLOCK of this size: its first cell, or None if there is no place."""
        chain, pool, stand = self._found(name)
        place_of(chain, size)
        first, behind = lent(pool, stand, size)
        self._do(name, {name: (chain, pool, behind)})
        return first

    def give(self, name, first):
        """The BLOCK that begins at this cell goes back."""
        chain, pool, stand = self._found(name)
        self._do(name, {name: (chain, pool, taken(stand, first))})

    def undo(self):
        """Undo the last deed that is not undone yet."""
        if len(self._past) == 0:
            raise NothingDone()
        self._pools = self._past.pop()

    def twin(self):
        """An equal Board without deeds to undo."""
        other = Board()
        other._pools = {name: self._pools[name] for name in self._pools}
        return other

    def live(self, name):
        """The LIVE of this POOL."""
        _, _, stand = self._found(name)
        return live(stand)

    def place(self, name, size):
        """The first cell that such an ask would get now; None if there is no place."""
        chain, pool, stand = self._found(name)
        place_of(chain, size)
        return first_place(pool, stand, size)

    def open_for(self, size):
        """The set of the NAMEs of the POOLS in which such an ask would get a place."""
        return tuple([
            name for name in self.names
            if size in self._pools[name][0] and self.place(name, size) is not None
        ])
