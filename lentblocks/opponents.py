"""The opponent: it asks for BLOCKS and gives them back such that a RULE needs the whole bar."""

from lentblocks.asking import answer_of
from lentblocks.bound import check_even
from lentblocks.errors import BadAnswer
from lentblocks.kinds import as_pairs
from lentblocks.rows import asks_of
from lentblocks.stands import live, put, taken


def _going_back(stand, size):
    """The first cells of the BLOCKS that go back: all but the least one in each slot of the size."""
    stays = {}
    for first, own in stand:
        slot = first // size
        # The first cells rise, so of several least ones the first one is kept.
        if slot not in stays or own < stays[slot][1]:
            stays[slot] = (first, own)
    return [first for first, _ in stand if stays[first // size][0] != first]


def _touched(stand, size):
    """The cells of the slots of this size that are touched by BLOCKS that are not greater."""
    return size * len({first // size for first, _ in stand})


def _played_against(chain, budget, pool, place):
    """The DEEDS, the places, and the cells of touched slots behind each step that was ended."""
    stand = ()
    numbers = {}
    deeds = []
    places = []
    met = []
    for size in chain:
        for first in _going_back(stand, size):
            deeds.append(("back", numbers[first]))
            stand = taken(stand, first)
        while live(stand) + size <= budget:
            deeds.append(("ask", size))
            answer = answer_of(place, pool, stand, size)
            if answer is None:
                return deeds, places, met
            numbers[answer] = len(places)
            places.append(answer)
            stand = put(answer + size, stand, answer, size)
        met.append(_touched(stand, size))
    return deeds, places, met


def opponent(chain, budget, pool, place):
    """What the opponent did: the ROW, the places, and whether it was refused or served."""
    check_even(chain, budget)
    deeds, places, met = _played_against(chain, budget, pool, place)
    word = "served" if len(met) == len(chain) else "refused"
    return (tuple(deeds), tuple(places), word)


def met_behind(chain, budget, pool, place):
    """The cells of touched slots behind each step in which nothing was refused."""
    check_even(chain, budget)
    _, _, met = _played_against(chain, budget, pool, place)
    return tuple(met)


def greatest_end(chain, budget, place):
    """The greatest end of a BLOCK that a RULE without a POOL gave; None if it refuses."""
    check_even(chain, budget)
    deeds, places, met = _played_against(chain, budget, None, place)
    if len(met) < len(chain):
        return None
    return max([first + size for first, size in zip(places, asks_of(deeds))], default=0)


def is_opponent_row(chain, budget, row, places):
    """Whether the opponent does just this if these places are answered, one behind another."""
    check_even(chain, budget)
    left = list(places)[::-1]

    def next_place(stand, size):
        return left.pop() if len(left) > 0 else None

    try:
        deeds, served, _ = _played_against(chain, budget, None, next_place)
    except BadAnswer:
        return False
    return tuple(deeds) == as_pairs(row) and served == list(places)
