"""Histories: makes, their parents and their ancestors (h1 to h3)."""

from firstbreak.errors import BadHistory
from firstbreak.shapes import are_integers, ascends

MOST_MAKES = 24
MOST_PARENTS = 4
LONGEST_NAME = 8
LETTERS = "abcdefghijklmnopqrstuvwxyz"


def check_history(thing):
    """Raise BadHistory, with line 0, if thing is no history."""
    if not is_shaped(thing):
        raise BadHistory(0, "not a history")
    makes = thing[1]
    if not makes:
        raise BadHistory(0, "no makes")
    if len(makes) > MOST_MAKES:
        raise BadHistory(0, "too many makes")
    check_makes(makes)
    if len(ancestors(thing, len(makes) - 1)) < len(makes):
        raise BadHistory(0, "not of the last")


def is_shaped(thing):
    """Whether tuples, words, texts and integers stand where a history has them."""
    if not isinstance(thing, tuple) or len(thing) != 2 or thing[0] != "history":
        return False
    return isinstance(thing[1], tuple) and all([is_make(make) for make in thing[1]])


def is_make(thing):
    """Whether thing has the shape of a make."""
    if not isinstance(thing, tuple) or len(thing) != 2:
        return False
    return isinstance(thing[0], str) and are_integers(thing[1])


def check_makes(makes):
    """Raise BadHistory for the first make whose name or parents are wrong."""
    names = {}
    for at, (name, parents) in enumerate(makes):
        if not is_name(name):
            raise BadHistory(0, "bad name")
        if name in names:
            raise BadHistory(0, "two of a name")
        if not are_parents(parents, at):
            raise BadHistory(0, "bad parents")
        names[name] = at


def is_name(text):
    """Whether a make may be called so."""
    return 1 <= len(text) <= LONGEST_NAME and all([sign in LETTERS for sign in text])


def are_parents(parents, at):
    """Whether a tuple of integers can be the parents of the make at an index."""
    if len(parents) > MOST_PARENTS or not ascends(parents):
        return False
    return all([0 <= parent < at for parent in parents])


def ancestors(history, m):
    """The ancestors of make m, itself among them, ascending."""
    makes = history[1]
    reached = [False] * m + [True]
    # Parents stand ahead of their makes, so one way back meets every ancestor.
    for at in range(m, -1, -1):
        if reached[at]:
            for parent in makes[at][1]:
                reached[parent] = True
    return tuple([at for at, one in enumerate(reached) if one])


def offspring(history, m):
    """The makes that have make m among their ancestors, ascending."""
    found = {m: True}
    for at, (_, parents) in enumerate(history[1]):
        if any([parent in found for parent in parents]):
            found[at] = True
    return tuple(found)
