"""Small questions to values that may be anything."""

DIGITS = "0123456789"


def is_integer(thing):
    """Whether thing is an integer as the document means it."""
    # Python counts True and False among its integers.
    return isinstance(thing, int) and not isinstance(thing, bool)


def are_integers(thing):
    """Whether thing is a tuple of integers."""
    return isinstance(thing, tuple) and all([is_integer(one) for one in thing])


def ascends(row):
    """Whether each item of a tuple is less than the one behind it."""
    return all([low < high for low, high in zip(row, row[1:])])


def is_number(word, most):
    """Whether a word is a number of at most so many digits, written without a 0 ahead."""
    if not 1 <= len(word) <= most or not all([sign in DIGITS for sign in word]):
        return False
    return word == "0" or word[0] != "0"
