"""The bound: the least POOL in which no ROW of a BUDGET is refused, and the STANDS that reach it."""

from math import lcm

from lentblocks.chains import place_of, ratios
from lentblocks.errors import NoNumber
from lentblocks.first import first_place
from lentblocks.fraction import lowest
from lentblocks.stands import is_stand, live


def unit(chain):
    """The number of which even BUDGETS are multiples."""
    common = 1
    for ratio in ratios(chain):
        common = lcm(common, ratio)
    return chain[-1] * common


def is_even(chain, budget):
    """Whether the BUDGET is even for the CHAIN."""
    return budget % unit(chain) == 0


def check_even(chain, budget):
    """Raise NoNumber(budget) if the BUDGET is not even."""
    if not is_even(chain, budget):
        raise NoNumber(budget)


def lines(chain, budget):
    """The LINES of the BUDGET, one for each size."""
    check_even(chain, budget)
    told = [budget]
    for ratio in ratios(chain):
        told.append(told[-1] + budget - budget // ratio)
    return tuple(told)


def least_pool(chain, budget):
    """The bar: the last LINE of the BUDGET."""
    return lines(chain, budget)[-1]


def factor(chain):
    """How many times an even BUDGET its bar is, a FRACTION."""
    step = unit(chain)
    return lowest(least_pool(chain, step), step)


def pool_bounds(chain, budget):
    """The bars of the even BUDGETS that are next to this one, below and above it or it itself."""
    step = unit(chain)
    below = budget // step * step
    above = (budget + step - 1) // step * step
    return (least_pool(chain, below), least_pool(chain, above))


def budget_for(chain, pool):
    """The greatest even BUDGET whose bar is at most this POOL."""
    step = unit(chain)
    # The bar grows as the BUDGET does, by as much from each even one to the next.
    return pool // least_pool(chain, step) * step


def over_lines(chain, budget, stand):
    """The BLOCKS that end above the LINE of their size."""
    told = lines(chain, budget)
    return tuple([
        (first, size) for first, size in stand if first + size > told[place_of(chain, size)]
    ])


def slot_weights(chain, budget, size):
    """For each size to this one, how many slots lie between its LINE and the one ahead of it."""
    told = lines(chain, budget)
    weights = []
    low = 0
    for at in range(place_of(chain, size) + 1):
        weights.append(((told[at] - low) // size, chain[at]))
        low = told[at]
    return tuple(weights)


def is_full_stand(chain, budget, size, thing):
    """Whether thing is a STAND that is full for the size and whose LIVE is the BUDGET."""
    told = lines(chain, budget)
    line = told[place_of(chain, size)]
    pool = told[-1]
    if not is_stand(chain, pool, thing) or live(thing) != budget:
        return False
    first = first_place(pool, thing, size)
    return (first is None or first + size > line) and len(over_lines(chain, budget, thing)) == 0


def full_stand(chain, budget, size):
    """A STAND that is full for the size and whose LIVE is the BUDGET."""
    blocks = []
    first = 0
    # The least BLOCK that may lie there bars each slot: all together they weigh the BUDGET.
    for many, least in slot_weights(chain, budget, size):
        for _ in range(many):
            blocks.append((first, least))
            first = first + size
    return tuple(blocks)
