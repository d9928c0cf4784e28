"""Wishes that are sure: served whatever their order and whatever slots are taken."""

from lentblocks.chains import check_sizes, place_of
from lentblocks.first import first_place
from lentblocks.kinds import is_number
from lentblocks.stands import how_many_places, is_block, is_place, put


def _weight(size, own):
    """How many slots of this size a wish of the size own may touch at the most."""
    return max(1, own // size)


def _spare(pool, stand, sizes, size):
    """How many slots of this size are free beyond those that the wishes may touch."""
    wished = sum([_weight(size, own) for own in sizes])
    return how_many_places(pool, stand, size) - wished


def _short(pool, stand, sizes):
    """The sizes of the wishes of which too few slots are free, ascending."""
    return [size for size in sorted(set(sizes)) if _spare(pool, stand, sizes, size) < 0]


def short_sizes(chain, pool, stand, sizes):
    """The set of the sizes among the wishes of which too few slots are free."""
    check_sizes(chain, sizes)
    return tuple(_short(pool, stand, sizes))


def are_sure(chain, pool, stand, sizes):
    """Whether each wish is served, whatever their order and whatever slots are taken."""
    check_sizes(chain, sizes)
    return len(_short(pool, stand, sizes)) == 0


def _spoiling(pool, stand, sizes, size):
    """The BLOCKS by which wishes leave no slot of this short size free, and the size refused.

    The greatest wishes take whole slots first; one of them may be refused even then. Each of the
    others takes a slot of this size for itself alone, as far as there are any.
    """
    blocks = []
    for own in sorted(sizes, reverse=True):
        wide = max(own, size)
        first = first_place(pool, stand, wide)
        if first is None:
            return (tuple(blocks), wide)
        blocks.append((first, own))
        stand = put(pool, stand, first, own)
    return (tuple(blocks), size)


def refused_order(chain, pool, stand, sizes):
    """BLOCKS that serve some wishes, and the size of one refused then; None if all are sure."""
    check_sizes(chain, sizes)
    short = _short(pool, stand, sizes)
    if len(short) == 0:
        return None
    others = list(sizes)
    others.remove(short[0])
    return _spoiling(pool, stand, others, short[0])


def _are_wishes(chain, sizes, blocks, size):
    """Whether the BLOCKS serve different wishes, and the size is that of another one."""
    if not isinstance(blocks, tuple) or not is_number(size) or len(blocks) >= len(sizes):
        return False
    if not all([is_block(chain, block) for block in blocks]):
        return False
    served = [own for _, own in blocks] + [size]
    return all([served.count(own) <= list(sizes).count(own) for own in served])


def is_refused_order(chain, pool, stand, sizes, thing):
    """Whether thing is a pair as refused_order tells it."""
    check_sizes(chain, sizes)
    if not isinstance(thing, tuple) or len(thing) != 2:
        return False
    blocks, size = thing
    if not _are_wishes(chain, sizes, blocks, size):
        return False
    for first, own in blocks:
        if not is_place(pool, stand, own, first):
            return False
        stand = put(pool, stand, first, own)
    return how_many_places(pool, stand, size) == 0


def more_sure(chain, pool, stand, sizes, size):
    """How many wishes of this size can be put to the others so that all are sure."""
    check_sizes(chain, sizes)
    place_of(chain, size)
    if len(_short(pool, stand, sizes)) > 0:
        return None
    asked = sorted(set([size, *sizes]))
    # Without any more the size itself need not have as many free slots as the others may touch.
    return max(0, min([_spare(pool, stand, sizes, own) // _weight(own, size) for own in asked]))


def sure_cells(chain, pool, stand):
    """The greatest number such that all wishes of so many cells together are sure."""
    # A size that is greater than this number bars nothing: so it need not be left out.
    return min([how_many_places(pool, stand, size) + size - 1 for size in chain])
