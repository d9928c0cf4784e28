"""STANDS: the BLOCKS that lie in a POOL, and what is free beside them."""

from lentblocks.errors import NoNumber, NoPlace
from lentblocks.kinds import is_number_tuple


def is_block(chain, thing):
    """Whether thing is a BLOCK of the CHAIN."""
    if not is_number_tuple(thing) or len(thing) != 2:
        return False
    first, size = thing
    return size in chain and first >= 0 and first % size == 0


def is_stand(chain, pool, thing):
    """Whether thing is a STAND of the CHAIN in this POOL."""
    if not isinstance(thing, tuple):
        return False
    end = 0
    for block in thing:
        if not is_block(chain, block) or block[0] < end:
            return False
        end = block[0] + block[1]
    return end <= pool


def live(stand):
    """What the sizes of the BLOCKS come to."""
    return sum([size for _, size in stand])


def sizes_of(stand):
    """The pairs (size, how many BLOCKS have it), ascending."""
    counts = {}
    for _, size in stand:
        counts[size] = counts.get(size, 0) + 1
    return tuple(sorted(counts.items()))


def last_end(stand):
    """The first cell behind all BLOCKS, 0 for ()."""
    if len(stand) == 0:
        return 0
    first, size = stand[-1]
    return first + size


def block_at(stand, cell):
    """The BLOCK that has this cell; None if there is none."""
    for first, size in stand:
        if first <= cell < first + size:
            return (first, size)
    return None


def free_runs(pool, stand, size):
    """The rows of neighbouring free slots, as pairs (number of the first slot, how many).

    They are told by the BLOCKS alone: a POOL may be too great to go from slot to slot.
    """
    runs = []
    at = 0
    for first, length in stand:
        low = first // size
        if low > at:
            runs.append((at, low - at))
        at = (first + length - 1) // size + 1
    many = pool // size
    if many > at:
        runs.append((at, many - at))
    return runs


def holes(pool, stand):
    """The rows of neighbouring cells in no BLOCK, as pairs (first, length)."""
    return tuple(free_runs(pool, stand, 1))


def how_many_places(pool, stand, size):
    """How many slots of this size are free."""
    return sum([many for _, many in free_runs(pool, stand, size)])


def is_place(pool, stand, size, first):
    """Whether a free slot of this size begins with the cell first."""
    end = first + size
    if first < 0 or first % size != 0 or end > pool:
        return False
    return not any([low < end and first < low + length for low, length in stand])


def nth_place(pool, stand, size, number):
    """The first cell of the free slot with this number, from 0."""
    if number < 0:
        raise NoNumber(number)
    left = number
    for low, many in free_runs(pool, stand, size):
        if left < many:
            return (low + left) * size
        left = left - many
    raise NoNumber(number)


def greatest_fit(chain, pool, stand):
    """The greatest size that has a free slot; None if none has."""
    for size in chain[::-1]:
        if how_many_places(pool, stand, size) > 0:
            return size
    return None


def put(pool, stand, first, size):
    """The STAND with the BLOCK (first, size) more."""
    if not is_place(pool, stand, size, first):
        raise NoPlace(first)
    blocks = [(low, length) for low, length in stand]
    blocks.append((first, size))
    return tuple(sorted(blocks))


def taken(stand, first):
    """The STAND without the BLOCK that begins with this cell."""
    rest = tuple([(low, length) for low, length in stand if low != first])
    if len(rest) == len(stand):
        raise NoNumber(first)
    return rest


def _cut(chain, first, end):
    """The fewest BLOCKS whose cells are just those from first on, ahead of end."""
    blocks = []
    at = first
    while at < end:
        # Slots lie in one another or apart, so the greatest one from here on is never wrong.
        size = max([own for own in chain if at % own == 0 and at + own <= end])
        blocks.append((at, size))
        at = at + size
    return blocks


def free_blocks(chain, pool, stand):
    """The STAND with fewest BLOCKS whose cells are just the free ones."""
    blocks = []
    for first, length in holes(pool, stand):
        blocks.extend(_cut(chain, first, first + length))
    return tuple(blocks)
