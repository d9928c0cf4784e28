"""What a RULE answers."""

from lentblocks.errors import BadAnswer
from lentblocks.kinds import as_tuples, is_number
from lentblocks.stands import is_place


def answer_of(place, pool, stand, size):
    """The first cell that the RULE answers, or None; a POOL that is None has no end."""
    answer = place(stand, size)
    if answer is None:
        return None
    if not is_number(answer):
        raise BadAnswer(as_tuples(answer))
    end = answer + size if pool is None else pool
    if not is_place(end, stand, size, answer):
        raise BadAnswer(answer)
    return answer
