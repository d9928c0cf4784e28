"""First place: each ask gets the least place at which a BLOCK of its size is free."""

from lentblocks.errors import NoPlace
from lentblocks.rows import asks_of, played
from lentblocks.stands import free_runs, put


def first_place(pool, stand, size):
    """The least place for the size; None if there is none."""
    runs = free_runs(pool, stand, size)
    return runs[0][0] * size if len(runs) > 0 else None


def lent(pool, stand, size):
    """The place that an ask gets, None if there is none, and the STAND behind it."""
    first = first_place(pool, stand, size)
    return (first, stand) if first is None else (first, put(pool, stand, first, size))


def _play(pool, row):
    """The STANDS and the places by first place, up to the first ask that is refused."""
    return played(row, lambda stand, size: first_place(pool, stand, size))


def _served(pool, row):
    """The STANDS and the places by first place; raises NoPlace for an ask that is refused."""
    stands, places = _play(pool, row)
    if len(stands) < len(row):
        raise NoPlace(len(places))
    return stands, places


def first_places(chain, pool, row):
    """The places that the asks get by first place."""
    _, places = _served(pool, row)
    return tuple(places)


def first_stands(chain, pool, row):
    """The STANDS behind each DEED by first place."""
    stands, _ = _served(pool, row)
    return stands


def serves_first(chain, pool, row):
    """Whether no ask is refused by first place."""
    stands, _ = _play(pool, row)
    return len(stands) == len(row)


def ends_first(chain, row):
    """The greatest end of a BLOCK of each size by first place, 0 if the size is not asked."""
    sizes = asks_of(row)
    # Each BLOCK touches one slot of the greatest size: with one more than asks, one is free.
    places = first_places(chain, (len(sizes) + 1) * chain[-1], row)
    ends = {size: 0 for size in chain}
    for size, first in zip(sizes, places):
        ends[size] = max(ends[size], first + size)
    return tuple([ends[size] for size in chain])


def first_pool(chain, row):
    """The least POOL in which no ask is refused by first place."""
    greatest = chain[-1]
    slots = (max(ends_first(chain, row)) + greatest - 1) // greatest
    return slots * greatest
