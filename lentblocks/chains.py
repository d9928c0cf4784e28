"""CHAINS: ascending sizes from 1 on, each a divisor of the next one."""

from lentblocks.errors import NoNumber, NoSize
from lentblocks.kinds import is_number_tuple

MOST_SIZES = 6
GREATEST_SIZE = 64


def is_chain(thing):
    """Whether thing is a CHAIN."""
    if not is_number_tuple(thing) or not 1 <= len(thing) <= MOST_SIZES:
        return False
    if thing[0] != 1 or thing[-1] > GREATEST_SIZE:
        return False
    for low, high in zip(thing, thing[1:]):
        # Sizes that rise from 1 on are never 0, so nothing is divided by 0.
        if high <= low or high % low != 0:
            return False
    return True


def ratios(chain):
    """How many times as great as the one ahead of it each size is."""
    return tuple([high // low for low, high in zip(chain, chain[1:])])


def chain_of(rates):
    """The CHAIN with these ratios."""
    sizes = [1]
    for rate in rates:
        sizes.append(sizes[-1] * rate)
    return tuple(sizes)


def size_for(chain, length):
    """The least size that is at least length."""
    for size in chain:
        if size >= length:
            return size
    raise NoSize(length)


def place_of(chain, size):
    """At which place, from 0, this size stands in the CHAIN."""
    for place, own in enumerate(chain):
        if own == size:
            return place
    raise NoSize(size)


def is_finer(one, other):
    """Whether one has all sizes of other."""
    return all([size in one for size in other])


def common_chain(one, other):
    """The CHAIN of the sizes that both have."""
    return tuple([size for size in one if size in other])


def _chains_to(greatest, most):
    """The CHAINS of at most so many sizes that end with this one."""
    if greatest == 1:
        return [(1,)]
    if most == 1:
        return []
    below = [size for size in range(1, greatest) if greatest % size == 0]
    return [chain + (greatest,) for size in below for chain in _chains_to(size, most - 1)]


def all_chains(greatest):
    """All CHAINS whose greatest size is this number, ascending."""
    return tuple(sorted(_chains_to(greatest, MOST_SIZES)))


def how_many_chains(greatest):
    """How many CHAINS have this greatest size."""
    return len(all_chains(greatest))


def nth_chain(greatest, number):
    """The CHAIN with this number, from 0, among those with this greatest size."""
    chains = all_chains(greatest)
    if not 0 <= number < len(chains):
        raise NoNumber(number)
    return chains[number]


def number_of_chain(chain):
    """The number of the CHAIN among those with its greatest size."""
    return all_chains(chain[-1]).index(tuple(chain))


def check_sizes(chain, sizes):
    """Raise NoSize for the first of the sizes that the CHAIN does not have."""
    for size in sizes:
        place_of(chain, size)
