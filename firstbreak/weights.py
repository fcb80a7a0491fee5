"""States, what answers make of them, and their weights (w1, w3)."""

from math import comb

from firstbreak.classes import classes, marks


def start(history, skipped, k):
    """The state ahead of all answers, of which at most k will be false."""
    return tuple([k for _ in classes(history, skipped)])


def after(history, skipped, state, answer):
    """The state behind an answer of a make that is not skipped."""
    kind, m = answer
    return taken(state, marks(history, skipped, (m,))[0], kind)


def taken(state, marked, kind):
    """The state behind an answer of a make that has the marked classes among its ancestors."""
    if kind == "broken":
        return tuple([left if mark or left < 0 else left - 1 for left, mark in zip(state, marked)])
    return tuple([left - 1 if mark and left >= 0 else left for left, mark in zip(state, marked)])


def inside(state):
    """The classes that are in."""
    return tuple([at for at, left in enumerate(state) if left >= 0])


def choices(q, most):
    """In how many ways at most so many of q can be chosen."""
    return sum([comb(q, many) for many in range(most + 1)])


def weight(state, q):
    """The weight of a state with q tests."""
    return sum([choices(q, left) for left in state])


def is_heavy(state, q):
    """Whether a state weighs too much to be settled within q tests."""
    return weight(state, q) > 1 << q


def weight_bound(state):
    """The least number of tests with which the state is not too heavy."""
    q = 0
    while is_heavy(state, q):
        q += 1
    return q
