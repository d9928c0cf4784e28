"""Small POOLS gone through: all STANDS to which a RULE comes, and what any RULE can keep up."""

from lentblocks.asking import answer_of
from lentblocks.kinds import as_pairs
from lentblocks.rows import is_row, played
from lentblocks.stands import is_place, is_stand, last_end, live, put

MOST_CELLS = 12


def _can_be_asked(budget, stand, size):
    """Whether the size can be asked for."""
    return live(stand) + size <= budget


def _without_one(stand):
    """The STANDS to which the returns of one BLOCK lead."""
    return [stand[:at] + stand[at + 1:] for at in range(len(stand))]


def _answers(chain, pool, budget, place, stand):
    """The pairs (size, answer) of the RULE, for all sizes that can be asked for."""
    return [
        (size, answer_of(place, pool, stand, size))
        for size in chain if _can_be_asked(budget, stand, size)
    ]


def _came_to(chain, pool, budget, place, to_refusal):
    """Each STAND that one comes to with the one ahead of it, and the first refusal that is met.

    The refusal is a pair (stand, size), or None. If to_refusal is True, it ends the search; the
    STANDS are gone through by the number of DEEDS, so that none is met sooner.
    """
    came = {(): None}
    layer = [()]
    while len(layer) > 0:
        fresh = []
        for stand in layer:
            after = _without_one(stand)
            for size, answer in _answers(chain, pool, budget, place, stand):
                if answer is not None:
                    after.append(put(pool, stand, answer, size))
                elif to_refusal:
                    return came, (stand, size)
            for other in after:
                if other not in came:
                    came[other] = stand
                    fresh.append(other)
        layer = fresh
    return came, None


def stands_of(chain, pool, budget, place):
    """All STANDS to which one comes by asks that are not refused and returns, ascending."""
    came, _ = _came_to(chain, pool, budget, place, False)
    return sorted(list(came))


def _way_to(came, stand):
    """The STANDS from () to this one, each with the next one a DEED away."""
    way = []
    while stand is not None:
        way.append(stand)
        stand = came[stand]
    return way[::-1]


def _deeds_along(way):
    """The DEEDS that lead from each of the STANDS to the next one."""
    numbers = {}
    asked = 0
    deeds = []
    for stand, after in zip(way, way[1:]):
        if len(after) > len(stand):
            first, size = [block for block in after if block not in stand][0]
            deeds.append(("ask", size))
            numbers[first] = asked
            asked = asked + 1
        else:
            first, _ = [block for block in stand if block not in after][0]
            deeds.append(("back", numbers[first]))
    return deeds


def refusal(chain, pool, budget, place):
    """A ROW with the fewest DEEDS of which the RULE refuses the last one; None if there is none."""
    came, refused = _came_to(chain, pool, budget, place, True)
    if refused is None:
        return None
    stand, size = refused
    return (*_deeds_along(_way_to(came, stand)), ("ask", size))


def fewest_deeds(chain, pool, budget, place):
    """The fewest DEEDS by which the RULE refuses an ask; None if it never does."""
    row = refusal(chain, pool, budget, place)
    return None if row is None else len(row)


def is_refusal(chain, pool, budget, place, thing):
    """Whether thing is a ROW of which the RULE refuses the last ask, and no other one."""
    if not is_row(chain, thing):
        return False

    def choose(stand, size):
        if not _can_be_asked(budget, stand, size):
            return None
        return answer_of(place, pool, stand, size)

    stands, _ = played(thing, choose)
    if len(stands) + 1 != len(thing):
        return False
    before = stands[-1] if len(stands) > 0 else ()
    _, size = thing[-1]
    return _can_be_asked(budget, before, size)


def _is_stand_set(chain, pool, budget, thing):
    """Whether thing is a set of STANDS of LIVE at most the BUDGET, () among them."""
    if not isinstance(thing, tuple) or len(thing) == 0 or thing[0] != ():
        return False
    for stand in thing:
        if not is_stand(chain, pool, stand) or live(stand) > budget:
            return False
    return all([low < high for low, high in zip(thing, thing[1:])])


def is_closed(chain, pool, budget, place, thing):
    """Whether thing is a set of STANDS that asks and returns do not leave, without a refusal."""
    if not _is_stand_set(chain, pool, budget, thing):
        return False
    members = {stand: True for stand in thing}
    for stand in thing:
        if not all([other in members for other in _without_one(stand)]):
            return False
        for size, answer in _answers(chain, pool, budget, place, stand):
            if answer is None or put(pool, stand, answer, size) not in members:
                return False
    return True


def _places(pool, stand, size):
    """The first cells of the free slots of this size, ascending."""
    return [first for first in range(0, pool, size) if is_place(pool, stand, size, first)]


def _mark_of(is_whole, marks):
    """What stands for a slot: a BLOCK that is all of it, or what its slots have, in any order."""
    return "x" if is_whole else "(" + "".join(sorted(marks)) + ")"


def _shape(chain, pool, stand):
    """A text that is the same for two STANDS if slots that trade places make one from the other.

    Slots of a size trade places within a slot of the next size, those of the greatest one in the
    POOL. Asks and returns lead on in the same way from both, so both are good or none is.
    """
    blocks = {block: True for block in stand}
    marks = ["x" if (cell, 1) in blocks else "-" for cell in range(pool)]
    for low, size in zip(chain, chain[1:]):
        rate = size // low
        marks = [
            _mark_of((slot * size, size) in blocks, marks[slot * rate:slot * rate + rate])
            for slot in range(pool // size)
        ]
    return "".join(sorted(marks))


def _steps_from(chain, pool, budget, stand):
    """Lists of STANDS: one for each size that can be asked for, of what it may lead to."""
    return [
        [put(pool, stand, first, size) for first in _places(pool, stand, size)]
        for size in chain if _can_be_asked(budget, stand, size)
    ]


def _shape_steps(chain, pool, budget):
    """For each shape of LIVE at most the BUDGET the shapes that asks and that returns lead to."""
    steps = {}
    layer = {_shape(chain, pool, ()): ()}
    while len(layer) > 0:
        fresh = {}
        for shape, stand in layer.items():
            asks = []
            for after in _steps_from(chain, pool, budget, stand):
                by_shape = {_shape(chain, pool, other): other for other in after}
                asks.append(list(by_shape))
                fresh.update(by_shape)
            backs = [_shape(chain, pool, other) for other in _without_one(stand)]
            steps[shape] = (asks, backs)
        layer = {shape: fresh[shape] for shape in fresh if shape not in steps}
    return steps


def _stays_good(step, good):
    """Whether a good shape follows by some place of each ask, and by each return."""
    asks, backs = step
    if not all([shape in good for shape in backs]):
        return False
    return all([any([shape in good for shape in after]) for after in asks])


def _good_shapes(chain, pool, budget):
    """The shapes from which some RULE never refuses, as the keys of a dict."""
    steps = _shape_steps(chain, pool, budget)
    good = steps
    many = -1
    # What is left in the end is the greatest lot of shapes that asks and returns need not leave.
    while len(good) != many:
        many = len(good)
        good = {shape: True for shape in good if _stays_good(steps[shape], good)}
    return good


def _all_stands(chain, pool, budget):
    """All STANDS of LIVE at most the BUDGET."""
    blocks = [(first, size) for size in chain for first in range(0, pool, size)]
    stands = [()]
    layer = [()]
    while len(layer) > 0:
        layer = [
            (*stand, (first, size)) for stand in layer for first, size in blocks
            if first >= last_end(stand) and _can_be_asked(budget, stand, size)
        ]
        stands.extend(layer)
    return stands


def good_stands(chain, pool, budget):
    """The STANDS from which some RULE never refuses what can be asked for, ascending."""
    good = _good_shapes(chain, pool, budget)
    if len(good) == 0:
        return []
    stands = _all_stands(chain, pool, budget)
    return sorted([stand for stand in stands if _shape(chain, pool, stand) in good])


def some_rule(chain, pool, budget):
    """Whether some RULE never refuses what can be asked for, from () on."""
    return _shape(chain, pool, ()) in _good_shapes(chain, pool, budget)


def good_places(chain, pool, budget, stand, size):
    """The first cells of the free slots of this size that lead to a good STAND."""
    good = _good_shapes(chain, pool, budget)
    blocks = as_pairs(stand)
    return tuple([
        first for first in _places(pool, blocks, size)
        if _shape(chain, pool, put(pool, blocks, first, size)) in good
    ])


def least_for_any(chain, budget):
    """The least POOL of at most 12 cells with which some RULE never refuses; None if none is."""
    for pool in range(0, MOST_CELLS + 1, chain[-1]):
        if some_rule(chain, pool, budget):
            return pool
    return None
