"""The deeds of a desk, and what they make of it (k1, k2).

What is on a desk is a tuple: the answers that are there, each as a pair of its number and the answer; the skipped
makes; and the number of the next answer."""

from firstbreak.errors import BadState
from firstbreak.shapes import is_integer

MOST_THERE = 200
EMPTY = ((), (), 0)


def is_deed(thing):
    """Whether thing, which may be anything, is a deed."""
    if not isinstance(thing, tuple):
        return False
    if len(thing) == 3:
        return thing[0] == "answer" and thing[1] in ("broken", "works") and isinstance(thing[2], str)
    if len(thing) != 2:
        return False
    if thing[0] == "take":
        return is_integer(thing[1])
    return thing[0] in ("skip", "unskip") and isinstance(thing[1], str)


def behind(history, there, deed):
    """What is on a desk behind a deed. Raises BadState if it cannot be done."""
    if deed[0] == "take":
        return behind_taking(there, deed[1])
    m = make_called(history, deed[-1])
    if deed[0] == "answer":
        return behind_answer(there, (deed[1], m))
    return behind_skipping(there, m, deed[0] == "skip")


def make_called(history, name):
    """The make of a name."""
    for m, (other, _) in enumerate(history[1]):
        if other == name:
            return m
    raise BadState()


def behind_answer(there, answer):
    """What is there with one more answer."""
    rows, skipped, number = there
    if answer[1] in skipped or len(rows) >= MOST_THERE:
        raise BadState()
    return rows + ((number, answer),), skipped, number + 1


def behind_taking(there, number):
    """What is there without the answer of a number."""
    rows, skipped, following = there
    kept = tuple([row for row in rows if row[0] != number])
    if len(kept) == len(rows):
        raise BadState()
    return kept, skipped, following


def behind_skipping(there, m, skips):
    """What is there with make m skipped, or not skipped any more."""
    rows, skipped, number = there
    if (m in skipped) == skips:
        raise BadState()
    others = [one for one in skipped if one != m]
    return rows, tuple(sorted(others + [m] if skips else others)), number
