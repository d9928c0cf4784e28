"""Touched slots: what lies in the slots of a size, and what must go back for one to be free."""

from lentblocks.kinds import is_number_tuple
from lentblocks.stands import how_many_places, live


def free_slots(pool, stand, size):
    """How many slots of this size are free."""
    return how_many_places(pool, stand, size)


def touched_cells(stand, size):
    """The size multiplied by how many slots of it are touched."""
    many = 0
    at = 0
    for first, length in stand:
        end = (first + length - 1) // size + 1
        many = many + end - max(at, first // size)
        at = end
    return many * size


def touched_by(chain, stand):
    """What touched_cells tells for all sizes of the CHAIN."""
    return tuple([touched_cells(stand, size) for size in chain])


def slot_sums(pool, stand, size):
    """How many cells of each slot of this size are in BLOCKS."""
    sums = [0] * (pool // size)
    for first, length in stand:
        # A BLOCK lies in one slot, or it is greater and fills several.
        for more in range(max(1, length // size)):
            at = first // size + more
            sums[at] = sums[at] + min(length, size)
    return tuple(sums)


def stuck_sizes(chain, pool, stand):
    """The set of the sizes of which no slot is free, though as many cells are."""
    left = pool - live(stand)
    return tuple([
        size for size in chain if size <= left and how_many_places(pool, stand, size) == 0
    ])


def _groups(stand, size):
    """The tuples of BLOCKS that must go back for some touched slot of this size to be free."""
    groups = {}
    for first, length in stand:
        # All slots in a greater BLOCK are free without it: the first one stands for them.
        slot = first // size
        groups[slot] = (*groups.get(slot, ()), (first, length))
    return list(groups.values())


def back_blocks(pool, stand, size):
    """BLOCKS of fewest cells without which a slot of this size is free; None without a slot."""
    if pool == 0:
        return None
    if how_many_places(pool, stand, size) > 0:
        return ()
    sums = [(live(group), group) for group in _groups(stand, size)]
    _, blocks = min(sums)
    return blocks


def least_back(pool, stand, size):
    """The fewest cells that must go back for a slot of this size to be free; None without one."""
    blocks = back_blocks(pool, stand, size)
    return None if blocks is None else live(blocks)


def _are_blocks_of(stand, thing):
    """Whether thing is an ascending tuple of BLOCKS of the STAND."""
    if not isinstance(thing, tuple):
        return False
    own = {(first, size): True for first, size in stand}
    # As a thing, a block with True in it would pass for one with 1.
    if not all([is_number_tuple(block) and block in own for block in thing]):
        return False
    return all([low < high for low, high in zip(thing, thing[1:])])


def is_back(pool, stand, size, thing):
    """Whether thing is BLOCKS as those that back_blocks tells."""
    if not _are_blocks_of(stand, thing) or live(thing) != least_back(pool, stand, size):
        return False
    rest = [(first, length) for first, length in stand if (first, length) not in thing]
    return how_many_places(pool, rest, size) > 0
