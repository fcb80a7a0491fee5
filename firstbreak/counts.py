"""Patches counted by how often they were contradicted (p2)."""

from firstbreak.errors import TooGreat
from firstbreak.weights import choices

MOST_CHANCES = 24


def counts_after(counts, taken, broken):
    """The counts behind an answer to the test of so many of them."""
    stays = [some if broken else many - some for many, some in zip(counts, taken)]
    moves = [many - some for many, some in zip(counts, stays)]
    return tuple([some + moved for some, moved in zip(stays, [0, *moves])])


def counts_weight(counts, q):
    """The weight of counts with q tests."""
    k = len(counts) - 1
    return sum([many * choices(q, k - often) for often, many in enumerate(counts)])


def fewest_counts(n, k):
    """The fewest tests for n patches and k false answers."""
    if n * (k + 1) > MOST_CHANCES:
        raise TooGreat()
    return needed({}, (n,) + (0,) * k)


def needed(known, counts):
    """The fewest tests that settle counts; known keeps those that were worked out."""
    if sum(counts) <= 1:
        return 0
    if counts not in known:
        known[counts] = 1 + min([
            max(needed(known, counts_after(counts, taken, True)), needed(known, counts_after(counts, taken, False)))
            for taken in telling_tests(counts)
        ])
    return known[counts]


def telling_tests(counts):
    """The tests that take some but not all; behind another one an answer leaves the counts as they are."""
    rows = [()]
    for many in counts:
        rows = [row + (some,) for row in rows for some in range(many + 1)]
    return [row for row in rows if 0 < sum(row) < sum(counts)]
