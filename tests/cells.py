"""What several tests compare with: STANDS and ROWS gone through cell by cell, deed by deed."""

import random


def stands_by_cells(chain, pool):
    """All STANDS, by choosing at each cell a BLOCK that begins there, or none."""
    found = []

    def go(at, blocks):
        if at == pool:
            found.append(blocks)
            return
        go(at + 1, blocks)
        for size in chain:
            if at % size == 0 and at + size <= pool:
                go(at + size, (*blocks, (at, size)))

    go(0, ())
    return found


def cells_of(blocks):
    return {cell for first, size in blocks for cell in range(first, first + size)}


def free_by_cells(pool, stand, size):
    """The first cells of the free slots of this size, cell by cell."""
    used = cells_of(stand)
    return [
        first for first in range(0, pool, size) if not used & set(range(first, first + size))
    ]


def random_row(chain, budget, many, seed):
    """A ROW of so many DEEDS whose height is at most the BUDGET, the same for the same seed."""
    choice = random.Random(seed)
    out = {}
    asked = 0
    row = []
    for _ in range(many):
        sizes = [size for size in chain if sum(out.values()) + size <= budget]
        if sizes and (not out or choice.random() < 0.6):
            size = choice.choice(sizes)
            row.append(("ask", size))
            out[asked] = size
            asked += 1
        elif out:
            number = choice.choice(sorted(out))
            row.append(("back", number))
            del out[number]
    return tuple(row)


def play_by_cells(row, choose):
    """The STANDS, the places, and the number of the ask for which choose tells None, or None."""
    out = {}
    stands = []
    places = []
    for word, number in row:
        if word == "ask":
            first = choose(tuple(sorted(out.values())), number)
            if first is None:
                return stands, tuple(places), len(places)
            out[len(places)] = (first, number)
            places.append(first)
        else:
            del out[number]
        stands.append(tuple(sorted(out.values())))
    return stands, tuple(places), None


def deep(thing, levels):
    """The thing in so many tuples, each in the next one."""
    for _ in range(levels):
        thing = (thing,)
    return thing


# No value as a function with a thing looks for, each of another sort.
THINGS = (
    None, True, False, 0, 1, -1, 7, 10 ** 40, "", "a", "ask", "first", [], [0], [()], (None,),
    (True,), ("",), ("ask",), ([],), (0, "1"), (0, None), (0, True), ((0, 1), None), ((0,),),
    (((0, 1),),), deep(0, 12), deep((), 11), [deep(1, 11)], deep("a", 12),
)
