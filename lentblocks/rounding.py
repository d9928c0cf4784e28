"""Wishes of any length, each rounded up to a size: what that wastes, and the POOL that it needs."""

from lentblocks.bound import factor, least_pool, unit
from lentblocks.chains import all_chains, is_chain, size_for
from lentblocks.errors import NoSize
from lentblocks.fraction import at_most, lowest


def _cells_by_length(chain, wish):
    """How many cells a wished cell gets, not in lowest terms."""
    return (size_for(chain, wish), wish)


def _check_length(chain, length):
    """Raise NoSize(length) if all sizes are less."""
    if chain[-1] < length:
        raise NoSize(length)


def worst_length(chain, length):
    """The least of the wishes up to length of which a wished cell gets most cells."""
    _check_length(chain, length)
    worst = 1
    for wish in range(2, length + 1):
        if not at_most(_cells_by_length(chain, wish), _cells_by_length(chain, worst)):
            worst = wish
    return worst


def waste(chain, length):
    """The most cells that a wished cell gets of wishes up to length, a FRACTION."""
    wish = worst_length(chain, length)
    return lowest(size_for(chain, wish), wish)


def is_tight(chain, length):
    """Whether the greatest size is at least length, and all others are less."""
    return chain[-1] >= length and all([size < length for size in chain[:-1]])


def tight_chains(length, greatest):
    """All CHAINS that are tight for length, of a greatest size to this one, ascending."""
    return tuple(sorted([
        chain for last in range(length, greatest + 1) for chain in all_chains(last)
        if is_tight(chain, length)
    ]))


def _costs(chain, length):
    """The waste and the need of the CHAIN."""
    return (waste(chain, length), factor(chain))


def _cost_less(one, other):
    """Whether of two pairs of costs none of one is greater, and one is less."""
    # In lowest terms FRACTIONS of the same value are the same pairs.
    return one != other and at_most(one[0], other[0]) and at_most(one[1], other[1])


def beats(one, other, length):
    """Whether one wastes and needs no more than other, and less of one of both."""
    return _cost_less(_costs(one, length), _costs(other, length))


def best_chains(length, greatest):
    """Those of tight_chains that no other one of them beats."""
    costs = {chain: _costs(chain, length) for chain in tight_chains(length, greatest)}
    return tuple([
        chain for chain in costs
        if not any([_cost_less(other, costs[chain]) for other in list(costs.values())])
    ])


def beaten_by(chain, length, greatest):
    """The least one of tight_chains that beats this CHAIN; None if none does."""
    own = _costs(chain, length)
    for other in tight_chains(length, greatest):
        if _cost_less(_costs(other, length), own):
            return other
    return None


def is_beaten_by(chain, length, greatest, thing):
    """Whether thing is one of tight_chains that beats this CHAIN."""
    _check_length(chain, length)
    if not is_chain(thing) or thing[-1] > greatest or not is_tight(thing, length):
        return False
    return beats(thing, chain, length)


def _is_preferred(one, other):
    """Whether the costs of one are better: it needs less, or as much and wastes less."""
    if one[1] != other[1]:
        return at_most(one[1], other[1])
    return one[0] != other[0] and at_most(one[0], other[0])


def best_within(length, greatest, limit):
    """Of tight_chains whose waste is at most limit the one that needs least; None without one."""
    best = None
    for chain in tight_chains(length, greatest):
        if not at_most(waste(chain, length), limit):
            continue
        # They ascend: of several with the same costs the least one is kept.
        if best is None or _is_preferred(_costs(chain, length), _costs(best, length)):
            best = chain
    return best


def enough_pool(chain, length, total):
    """The least POOL for the least even BUDGET that is at least waste times total."""
    top, bottom = waste(chain, length)
    step = unit(chain) * bottom
    units = (top * total + step - 1) // step
    return least_pool(chain, units * unit(chain))
