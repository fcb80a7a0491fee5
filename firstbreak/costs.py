"""Trees of tests that cost least, no answer being false (v1)."""

from firstbreak.search import Search, check_classes
from firstbreak.trees import grown
from firstbreak.weights import start, taken


class CostSearch(Search):
    """A search for the least costs instead of the fewest tests."""

    def __init__(self, history, skipped, costs):
        check_classes(history, skipped)
        super().__init__(history, skipped, taken)
        self.costs = costs

    def worth(self, state, m, broken, works):
        """What a state costs with make m first, by the costs behind both answers."""
        return self.costs[m] + max(broken, works)


def least_cost(history, skipped, costs):
    """The least cost of any tree."""
    return CostSearch(history, skipped, costs).needed(start(history, skipped, 0))


def cost_tree(history, skipped, costs):
    """A tree of the least cost."""
    return grown(CostSearch(history, skipped, costs), start(history, skipped, 0))


def cost_of(tree, costs):
    """The greatest sum of costs on a way through a tree."""
    if tree[0] != "ask":
        return 0
    _, m, broken, works = tree
    return costs[m] + max(cost_of(broken, costs), cost_of(works, costs))
