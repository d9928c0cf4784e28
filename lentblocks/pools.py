"""Several POOLS: the sizes of a CHAIN parted among them, and what they need."""

from lentblocks.errors import NoNumber
from lentblocks.kinds import is_number_tuple


def _check_square(greatest, budget):
    """Raise NoNumber(budget) if it is no multiple of the square of this size."""
    if budget % (greatest * greatest) != 0:
        raise NoNumber(budget)


def pool_for(sizes, budget):
    """The need of a set of sizes: the least POOL for them."""
    _check_square(sizes[-1], budget)
    need = budget
    for low, high in zip(sizes, sizes[1:]):
        need = need + budget - budget // (high // low)
    return need


def _is_part(thing):
    """Whether thing is an ascending tuple of numbers, not ()."""
    if not is_number_tuple(thing) or len(thing) == 0:
        return False
    return all([low < high for low, high in zip(thing, thing[1:])])


def is_parting(chain, thing):
    """Whether thing is PARTS of the CHAIN."""
    if not isinstance(thing, tuple) or not all([_is_part(part) for part in thing]):
        return False
    if sorted([size for part in thing for size in part]) != list(chain):
        return False
    return all([low < high for low, high in zip(thing, thing[1:])])


def all_partings(chain):
    """The list of all PARTS of the CHAIN, ascending."""
    partings = [()]
    for size in chain:
        # The size goes to each of the parts that are there, or to one of its own behind them.
        joined = [
            parts[:at] + ((*parts[at], size),) + parts[at + 1:]
            for parts in partings for at in range(len(parts))
        ]
        partings = joined + [(*parts, (size,)) for parts in partings]
    return sorted(partings)


def how_many_partings(many):
    """How many PARTS there are for so many sizes."""
    row = [1]
    # Each row begins with what the one ahead of it ended with, and adds that one up.
    for _ in range(many - 1):
        next_row = [row[-1]]
        for number in row:
            next_row.append(next_row[-1] + number)
        row = next_row
    return row[-1]


def _needs(parts, budget):
    """What each of the parts needs."""
    return [pool_for(part, budget) for part in parts]


def total_for(chain, parts, budget):
    """What the parts need together."""
    _check_square(chain[-1], budget)
    return sum(_needs(parts, budget))


def _partings_within(chain, budget, most):
    """The PARTS of which none needs more than most, ascending."""
    _check_square(chain[-1], budget)
    return [parts for parts in all_partings(chain) if max(_needs(parts, budget)) <= most]


def fewest_pools(chain, budget, most):
    """The fewest parts of PARTS of which none needs more than most; None if there are none."""
    within = _partings_within(chain, budget, most)
    return min([len(parts) for parts in within], default=None)


def best_parting(chain, budget, most):
    """PARTS of least needs together, of which none needs more than most; None without any."""
    totals = [
        (total_for(chain, parts, budget), parts)
        for parts in _partings_within(chain, budget, most)
    ]
    _, best = min(totals, default=(0, None))
    return best


def is_best_parting(chain, budget, most, thing):
    """Whether thing is PARTS as those that best_parting tells."""
    best = best_parting(chain, budget, most)
    if best is None or not is_parting(chain, thing) or max(_needs(thing, budget)) > most:
        return False
    return total_for(chain, thing, budget) == total_for(chain, best, budget)
