"""Halving what is left, no answer being false (g1 to g4)."""

from firstbreak.errors import BadState
from firstbreak.histories import ancestors


def parts_by(history, left, m):
    """What stays of the candidates left if make m is broken, and if it works."""
    row = ancestors(history, m)
    return tuple([c for c in left if c in row]), tuple([c for c in left if c not in row])


def even_test(history, left):
    """The first make that parts the candidates left most evenly."""
    if len(left) < 2:
        raise BadState()
    return max(list(range(len(history[1]))), key=lambda m: lesser_part(history, left, m))


def lesser_part(history, left, m):
    """How many candidates the lesser part has by make m."""
    return min([len(part) for part in parts_by(history, left, m)])


def even_most(history, left):
    """The greatest number of tests that even testing needs from what is left."""
    if len(left) < 2:
        return 0
    broken, works = parts_by(history, left, even_test(history, left))
    return 1 + max(even_most(history, broken), even_most(history, works))


def even_tree(history):
    """The tree of even testing, with candidates in the place of classes."""
    return even_part(history, tuple(range(len(history[1]))))


def even_part(history, left):
    """The part of the tree of even testing for at least one candidate left."""
    if len(left) == 1:
        return ("found", left[0])
    m = even_test(history, left)
    broken, works = parts_by(history, left, m)
    return ("ask", m, even_part(history, broken), even_part(history, works))


def has_two(history):
    """Whether every make has at most two parents."""
    return all([len(parents) <= 2 for _, parents in history[1]])


def two_bound(n):
    """How many even tests are enough for n makes of at most two parents each."""
    tests = 0
    # n - s does not fall as n grows, so f does not either, and of f(1) to f(n - s) the last is greatest.
    while n > 1:
        n -= (2 * n + 3) // 6
        tests += 1
    return tests
