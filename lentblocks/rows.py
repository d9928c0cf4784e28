"""ROWS: asks for BLOCKS and returns of them, one DEED behind another."""

from lentblocks.chains import place_of
from lentblocks.errors import NoNumber, NoPlace
from lentblocks.kinds import as_pairs, is_number, is_number_tuple
from lentblocks.stands import is_place, put, taken


def _is_deed(thing):
    """Whether thing is a DEED of some ROW."""
    if not isinstance(thing, tuple) or len(thing) != 2:
        return False
    return thing[0] in ("ask", "back") and is_number(thing[1])


def is_row(chain, thing):
    """Whether thing is a ROW of this CHAIN."""
    if not isinstance(thing, tuple):
        return False
    is_out = []
    for deed in thing:
        if not _is_deed(deed):
            return False
        word, number = deed
        if word == "ask":
            if number not in chain:
                return False
            is_out.append(True)
        else:
            if not 0 <= number < len(is_out) or not is_out[number]:
                return False
            is_out[number] = False
    return True


def asks_of(row):
    """The sizes of the asks."""
    return tuple([number for word, number in row if word == "ask"])


def out_at(row):
    """DEED by DEED, what the sizes of those that are out behind it come to."""
    sizes = asks_of(row)
    now = 0
    sums = []
    for word, number in row:
        now = now + number if word == "ask" else now - sizes[number]
        sums.append(now)
    return tuple(sums)


def height(row):
    """The most that the sizes of those that are out come to."""
    return max(out_at(row), default=0)


def still_out(row):
    """The numbers of the asks that are out behind all of the ROW."""
    returned = {number: True for word, number in row if word == "back"}
    return tuple([number for number in range(len(asks_of(row))) if number not in returned])


def with_ask(chain, row, size):
    """The ROW with an ask for this size behind it."""
    place_of(chain, size)
    return (*as_pairs(row), ("ask", size))


def with_back(row, number):
    """The ROW with the ask of this number given back behind it."""
    if number not in still_out(row):
        raise NoNumber(number)
    return (*as_pairs(row), ("back", number))


def all_back(row):
    """The ROW with all that are out given back behind it."""
    return as_pairs(row) + tuple([("back", number) for number in still_out(row)])


def played(row, choose):
    """The STANDS behind the DEEDS, and the places of the asks, as choose(stand, size) tells them.

    The first ask for which choose tells None ends both lists: it is refused.
    """
    stand = ()
    stands = []
    places = []
    for word, number in row:
        if word == "ask":
            first = choose(stand, number)
            if first is None:
                return stands, places
            places.append(first)
            stand = put(first + number, stand, first, number)
        else:
            stand = taken(stand, places[number])
        stands.append(stand)
    return stands, places


def _played_by(pool, row, places):
    """What played tells if the asks get these places, each one only where it is free."""
    left = list(places)[::-1]

    def next_place(stand, size):
        first = left.pop()
        return first if is_place(pool, stand, size, first) else None

    return played(row, next_place)


def stands_by(chain, pool, row, places):
    """The STANDS behind each DEED if the asks get these places."""
    stands, served = _played_by(pool, row, places)
    if len(stands) < len(row):
        raise NoPlace(len(served))
    return stands


def is_places(chain, pool, row, thing):
    """Whether thing is PLACES by which the ROW is served."""
    if not is_number_tuple(thing) or len(thing) != len(asks_of(row)):
        return False
    stands, _ = _played_by(pool, row, thing)
    return len(stands) == len(row)
