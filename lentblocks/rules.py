"""WRITTEN RULES: four words and tables that choose places."""

from lentblocks.chains import place_of
from lentblocks.errors import NoPlace
from lentblocks.first import first_place
from lentblocks.kinds import is_number_tuple
from lentblocks.rows import asks_of, played
from lentblocks.stands import free_runs, greatest_fit, is_place

WORDS = ("first", "last", "tight", "wide")


def _is_order(pool, size, thing):
    """Whether thing is a tuple of all multiples of the size below the POOL."""
    # The length is looked at first: a great POOL has too many multiples to be listed.
    if not is_number_tuple(thing) or len(thing) != pool // size:
        return False
    return sorted(thing) == list(range(0, pool, size))


def _are_orders(chain, pool, thing):
    """Whether thing is the orders of a table."""
    if not isinstance(thing, tuple) or len(thing) != len(chain):
        return False
    return all([_is_order(pool, size, order) for size, order in zip(chain, thing)])


def is_written(chain, pool, thing):
    """Whether thing is a WRITTEN RULE."""
    if isinstance(thing, tuple):
        return len(thing) == 2 and thing[0] == "table" and _are_orders(chain, pool, thing[1])
    return thing in WORDS


def mirrored(pool, stand):
    """The STAND seen from the other end of the POOL."""
    return tuple(sorted([(pool - first - size, size) for first, size in stand]))


def room_of(chain, pool, stand, first, size):
    """The greatest size of which the slot with this place in it is free; 0 if it is no place."""
    place_of(chain, size)
    if not is_place(pool, stand, size, first):
        return 0
    # If a slot is free, all slots in it are free.
    rooms = [own for own in chain if own >= size and is_place(pool, stand, own, first // own * own)]
    return max(rooms)


def _last_place(pool, stand, size):
    """The greatest place for the size; None if there is none."""
    runs = free_runs(pool, stand, size)
    if len(runs) == 0:
        return None
    low, many = runs[-1]
    return (low + many - 1) * size


def _first_pent(pool, stand, size, next_size):
    """The least place for the size in no free slot of the next size; None if there is none."""
    rate = next_size // size
    for low, many in free_runs(pool, stand, size):
        # A slot of the next size is free if all its slots are in one run of free ones.
        if low % rate != 0:
            return low * size
        if many % rate != 0:
            return (low + many // rate * rate) * size
    return None


def _tight_place(chain, pool, stand, size):
    """The least of the places whose room is least; None if there is no place."""
    at = place_of(chain, size)
    for own, next_size in zip(chain[at:], chain[at + 1:]):
        first = _first_pent(pool, stand, own, next_size)
        if first is not None:
            return first
    return first_place(pool, stand, chain[-1])


def _wide_place(chain, pool, stand, size):
    """The least of the places whose room is greatest; None if there is no place."""
    room = greatest_fit(chain, pool, stand)
    if room is None or room < size:
        return None
    return first_place(pool, stand, room)


def _place_in_order(order, pool, stand, size):
    """The first one in the order that is a place; None if none is."""
    for first in order:
        if is_place(pool, stand, size, first):
            return first
    return None


def place_by(rule, chain, pool, stand, size):
    """The place that the WRITTEN RULE chooses; None if there is no place."""
    at = place_of(chain, size)
    if rule == "first":
        return first_place(pool, stand, size)
    if rule == "last":
        return _last_place(pool, stand, size)
    if rule == "tight":
        return _tight_place(chain, pool, stand, size)
    if rule == "wide":
        return _wide_place(chain, pool, stand, size)
    orders = rule[1]
    return _place_in_order(orders[at], pool, stand, size)


def served_by(rule, chain, pool, row):
    """The places of the asks ahead of the one that is refused, or of all."""
    _, places = played(row, lambda stand, size: place_by(rule, chain, pool, stand, size))
    return tuple(places)


def refused_by(rule, chain, pool, row):
    """The number of the ask that is refused; None if none is."""
    many = len(served_by(rule, chain, pool, row))
    return many if many < len(asks_of(row)) else None


def serves(rule, chain, pool, row):
    """Whether no ask is refused."""
    return refused_by(rule, chain, pool, row) is None


def places_by(rule, chain, pool, row):
    """The PLACES that the asks get; raises NoPlace for the ask that is refused."""
    places = served_by(rule, chain, pool, row)
    if len(places) < len(asks_of(row)):
        raise NoPlace(len(places))
    return places


def pool_by(word, chain, row):
    """The least POOL in which this RULE refuses no ask of the ROW."""
    pool = 0
    # A greater POOL may be worse for some words. As many greatest slots as asks are enough for each.
    while not serves(word, chain, pool, row):
        pool = pool + chain[-1]
    return pool
