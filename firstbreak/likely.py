"""Trees of tests whose number is least on the average, no answer being false (v2, v4)."""

from firstbreak.classes import classes
from firstbreak.histories import ancestors
from firstbreak.search import Search, check_classes
from firstbreak.trees import grown
from firstbreak.weights import inside, start, taken


class SumSearch(Search):
    """A search for the least sum of likelihoods times tests instead of the fewest tests."""

    def __init__(self, history, skipped, likely):
        check_classes(history, skipped)
        super().__init__(history, skipped, taken)
        self.shares = class_likely(history, skipped, likely)

    def worth(self, state, m, broken, works):
        """The sum of a state, by those behind both answers: whatever the test is, all that are in go through it."""
        return sum([self.shares[at] for at in inside(state)]) + broken + works


def least_sum(history, skipped, likely):
    """The least sum of any tree."""
    return SumSearch(history, skipped, likely).needed(start(history, skipped, 0))


def sum_tree(history, skipped, likely):
    """A tree of the least sum."""
    return grown(SumSearch(history, skipped, likely), start(history, skipped, 0))


def sum_of(history, tree, likely):
    """The sum of a tree: over all candidates the likelihood times the tests on its way."""
    return sum([often * asks_of(history, tree, c) for c, often in enumerate(likely)])


def asks_of(history, tree, c):
    """The number of asks on the way that a candidate goes through a tree."""
    asks = 0
    while tree[0] == "ask":
        tree = tree[2] if c in ancestors(history, tree[1]) else tree[3]
        asks += 1
    return asks


def huffman_sum(numbers):
    """Huffman's sum: that of the best tree if any tree could be had."""
    rows = sorted(numbers)
    total = 0
    while len(rows) > 1:
        both = rows[0] + rows[1]
        total += both
        rows = sorted([both, *rows[2:]])
    return total


def class_likely(history, skipped, likely):
    """The likelihoods of the classes."""
    return tuple([sum([likely[c] for c in row]) for row in classes(history, skipped)])
