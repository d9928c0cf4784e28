"""Of which kind a thing is."""


def is_number(thing):
    """Whether thing is an int that is no bool."""
    return isinstance(thing, int) and not isinstance(thing, bool)


def is_number_tuple(thing):
    """Whether thing is a tuple of numbers, maybe ()."""
    return isinstance(thing, tuple) and all([is_number(part) for part in thing])


def as_pairs(rows):
    """The same pairs, BLOCKS or DEEDS, as a tuple of tuples."""
    return tuple([(one, two) for one, two in rows])


def as_tuples(thing):
    """The thing with a tuple in the place of each list, at any depth."""
    if isinstance(thing, (list, tuple)):
        return tuple([as_tuples(part) for part in thing])
    return thing
