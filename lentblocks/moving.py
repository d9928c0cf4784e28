"""Moving: which wishes fit beside a STAND, and the fewest cells to be moved for them."""

from lentblocks.chains import check_sizes, place_of
from lentblocks.first import first_place
from lentblocks.kinds import as_pairs, is_number, is_number_tuple
from lentblocks.stands import how_many_places, is_block, is_stand, live, put


def _fit(chain, pool, stand, sizes):
    """Whether BLOCKS of these sizes can be laid into the free cells."""
    for size in chain:
        wished = sum([own for own in sizes if own >= size])
        if wished > how_many_places(pool, stand, size) * size:
            return False
    return True


def _lay(pool, stand, sizes):
    """The first cells of BLOCKS of these sizes, which fit."""
    places = [0] * len(sizes)
    # The greatest ones are laid first: then no place that is chosen spoils a later one.
    for negative, number in sorted([(-size, number) for number, size in enumerate(sizes)]):
        first = first_place(pool, stand, -negative)
        places[number] = first
        stand = put(pool, stand, first, -negative)
    return tuple(places)


def fits(chain, pool, stand, sizes):
    """Whether BLOCKS of these sizes can be laid beside the STAND."""
    check_sizes(chain, sizes)
    return _fit(chain, pool, stand, sizes)


def laid(chain, pool, stand, sizes):
    """The first cells of BLOCKS of these sizes beside the STAND; None if they do not fit."""
    check_sizes(chain, sizes)
    return _lay(pool, stand, sizes) if _fit(chain, pool, stand, sizes) else None


def _are_places(chain, pool, stand, sizes, thing):
    """Whether thing is first cells of BLOCKS of these sizes that make a STAND with this one."""
    if not is_number_tuple(thing) or len(thing) != len(sizes):
        return False
    blocks = [(first, size) for first, size in stand]
    blocks.extend([(first, size) for first, size in zip(thing, sizes)])
    return is_stand(chain, pool, tuple(sorted(blocks)))


def is_laid(chain, pool, stand, sizes, thing):
    """Whether thing is first cells as those that laid tells."""
    check_sizes(chain, sizes)
    return _are_places(chain, pool, stand, sizes, thing)


def can_be_met(chain, pool, stand, sizes):
    """Whether there are MOVES for the wishes."""
    check_sizes(chain, sizes)
    return live(stand) + sum(sizes) <= pool


def _parts_by_size(stand):
    """All tuples of BLOCKS of the STAND, those of which fewer cells are moved first."""
    parts = [()]
    for first, size in stand:
        parts = parts + [(*part, (first, size)) for part in parts]
    numbered = [(live(part), number) for number, part in enumerate(parts)]
    return [parts[number] for _, number in sorted(numbered)]


def _without(stand, part):
    """The BLOCKS of the STAND that are not in this part of it."""
    return tuple([(first, size) for first, size in stand if (first, size) not in part])


def _least_moved(chain, pool, stand, sizes):
    """BLOCKS of fewest cells that are moved for the wishes; None if there are no MOVES.

    They fit beside the rest together with the wishes. In no such way one of them comes to lie
    where it was: without it fewer cells would be moved.
    """
    if live(stand) + sum(sizes) > pool:
        return None
    for part in _parts_by_size(stand):
        wishes = [size for _, size in part] + list(sizes)
        if _fit(chain, pool, _without(stand, part), wishes):
            return part
    return None


def fewest_moved(chain, pool, stand, sizes):
    """The fewest cells that are moved by MOVES for the wishes; None if there are none."""
    check_sizes(chain, sizes)
    part = _least_moved(chain, pool, stand, sizes)
    return None if part is None else live(part)


def best_moves(chain, pool, stand, sizes):
    """MOVES for the wishes by which fewest cells are moved; None if there are none."""
    check_sizes(chain, sizes)
    part = _least_moved(chain, pool, stand, sizes)
    if part is None:
        return None
    wishes = [size for _, size in part] + list(sizes)
    places = _lay(pool, _without(stand, part), wishes)
    moves = tuple([(block, first) for block, first in zip(part, places)])
    return (moves, places[len(part):])


def _is_move(chain, blocks, thing):
    """Whether thing is a MOVE of one of these BLOCKS."""
    if not isinstance(thing, tuple) or len(thing) != 2:
        return False
    block, first = thing
    # As a thing, a block with True in it would pass for one with 1.
    return is_block(chain, block) and block in blocks and is_number(first) and first != block[0]


def _are_moves(chain, stand, thing):
    """Whether thing is an ascending tuple of MOVES of this STAND, no BLOCK twice."""
    if not isinstance(thing, tuple):
        return False
    blocks = {block: True for block in as_pairs(stand)}
    if not all([_is_move(chain, blocks, move) for move in thing]):
        return False
    return all([low[0] < high[0] for low, high in zip(thing, thing[1:])])


def is_moves(chain, pool, stand, sizes, thing):
    """Whether thing is MOVES for the wishes."""
    check_sizes(chain, sizes)
    if not isinstance(thing, tuple) or len(thing) != 2 or not _are_moves(chain, stand, thing[0]):
        return False
    moves, places = thing
    moved = [block for block, _ in moves]
    rest = _without(stand, moved)
    lengths = [size for _, size in moved] + list(sizes)
    if not isinstance(places, tuple):
        return False
    ends = tuple([first for _, first in moves]) + places
    return _are_places(chain, pool, rest, lengths, ends)


def is_best_moves(chain, pool, stand, sizes, thing):
    """Whether thing is MOVES for the wishes by which fewest cells are moved."""
    if not is_moves(chain, pool, stand, sizes, thing):
        return False
    moved = live([block for block, _ in thing[0]])
    return moved == fewest_moved(chain, pool, stand, sizes)


def least_lived(chain, pool, stand, size):
    """The fewest cells in BLOCKS in a slot of the size in no greater BLOCK; None without a slot."""
    place_of(chain, size)
    barred = {}
    lived = {}
    for first, own in stand:
        slot = first // size
        if own > size:
            barred.update({slot + more: True for more in range(own // size)})
        else:
            lived[slot] = lived.get(slot, 0) + own
    if len(barred) + len(lived) < pool // size:
        return 0
    return min(lived.values(), default=None)
