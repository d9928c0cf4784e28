"""Of which kind a thing is."""


def is_number(thing):
    """Whether thing is an int that is no bool."""
    return isinstance(thing, int) and not isinstance(thing, bool)


def is_number_tuple(thing):
    """Whether thing is a tuple of numbers, maybe ()."""
    return isinstance(thing, tuple) and all([is_number(part) for part in thing])
