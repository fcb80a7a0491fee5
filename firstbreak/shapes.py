"""Small questions to values that may be anything."""


def is_integer(thing):
    """Whether thing is an integer as the document means it."""
    # Python counts True and False among its integers.
    return isinstance(thing, int) and not isinstance(thing, bool)


def are_integers(thing):
    """Whether thing is a tuple of integers."""
    return isinstance(thing, tuple) and all([is_integer(one) for one in thing])


def ascends(row):
    """Whether each item of a tuple is less than the one behind it."""
    return all([low < high for low, high in zip(row, row[1:])])
