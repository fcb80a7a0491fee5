import unittest

import plain
from firstbreak.costs import cost_of, cost_tree, least_cost
from firstbreak.errors import TooGreat
from firstbreak.judge import judge_tree
from firstbreak.search import fewest


class AllTrees:
    """All trees without false answers tried out; each make is asked at most once on a way."""

    def __init__(self, history, skipped):
        self.history = history
        self.under = {m: plain.walk(history, m) for m in plain.indices(history) if m not in skipped}
        self.rows = plain.plain_classes(history, skipped)

    def firsts(self):
        return tuple(row[0] for row in self.rows)

    def behind(self, left, m):
        row = self.under[m]
        return tuple(c for c in left if c in row), tuple(c for c in left if c not in row)

    def trees(self, left, asked=()):
        """All trees for candidates left, one of each class."""
        if not left:
            yield ("nobody",)
        if len(left) == 1:
            yield ("found", self.firsts().index(left[0]))
        for m in self.under:
            if m not in asked:
                broken, works = self.behind(left, m)
                for low in self.trees(broken, asked + (m,)):
                    for high in self.trees(works, asked + (m,)):
                        yield ("ask", m, low, high)

    def least(self, left, worth, asked=()):
        """The least worth of a tree, worth telling that of an ask from those of its branches."""
        best = 0 if len(left) < 2 else None
        for m in self.under:
            if m not in asked:
                parts = [self.least(part, worth, asked + (m,)) for part in self.behind(left, m)]
                here = None if None in parts else worth(left, m, *parts)
                best = here if best is None or here is not None and here < best else best
        return best


def plain_cost(tree, costs):
    """The greatest of the sums of all ways."""
    ways = [(tree, 0)]
    sums = []
    while ways:
        part, so_far = ways.pop()
        if part[0] == "ask":
            ways += [(below, so_far + costs[part[1]]) for below in part[2:]]
        else:
            sums.append(so_far)
    return max(sums)


def drawn(many, seed, least, most):
    rolls = plain.dice(seed)
    return tuple(least + next(rolls) % (most - least + 1) for _ in range(many))


def cost_rows(n):
    """Rows of costs for n makes."""
    yield (1,) * n
    yield (1000,) * n
    yield tuple(1 if at % 2 else 1000 for at in range(n))
    for seed in range(3):
        yield drawn(n, seed, 1, 1000)
        yield drawn(n, seed, 1, 3)


def small_games():
    for history in plain.SMALL:
        for skipped in plain.subsets(plain.indices(history), 4 if len(history[1]) < 4 else 1):
            yield history, skipped
    yield from ((plain.chain(5), ()), (plain.chain(6), (1, 3)), (plain.fan(5), (0,)), (plain.SAMPLES[-2], (2, 3, 5)))
    # Makes that part the same classes otherwise, so that it matters which of them is asked.
    yield plain.history_of((), (0,), (0,), (1, 2), (0, 3)), (1,)


class Costs(unittest.TestCase):
    def looked_at(self, history, skipped, costs):
        """The least cost, a tree of which was looked at."""
        found = least_cost(history, skipped, costs)
        tree = cost_tree(history, skipped, costs)
        game = plain.Plain(history, skipped)
        self.assertIsNotNone(game.depth(game.start(0), tree))
        self.assertIs(judge_tree(history, skipped, game.start(0), 200, tree), True)
        self.assertEqual((cost_of(tree, costs), plain_cost(tree, costs)), (found, found))
        return found

    def test_all_trees_tried_out(self):
        for history, skipped in small_games():
            trees = AllTrees(history, skipped)
            for costs in cost_rows(len(history[1])):
                right = trees.least(trees.firsts(), lambda left, m, low, high: costs[m] + max(low, high))
                self.assertEqual(self.looked_at(history, skipped, costs), right, (history, skipped, costs))

    def test_each_tree_itself(self):
        for history in plain.SMALL:
            if len(history[1]) < 4:
                for skipped in plain.subsets(plain.indices(history)):
                    trees = AllTrees(history, skipped)
                    for costs in cost_rows(len(history[1])):
                        found = []
                        for tree in trees.trees(trees.firsts()):
                            found.append(cost_of(tree, costs))
                            self.assertEqual(found[-1], plain_cost(tree, costs))
                        self.assertEqual(min(found), least_cost(history, skipped, costs))

    def test_alike_costs_count_tests(self):
        for history in plain.SAMPLES[-5:] + [plain.fan(10), plain.chain(10)]:
            for skipped in ((), (1, 2)):
                for cost in (1, 7, 1000):
                    right = cost * fewest(history, skipped, 0)
                    self.assertEqual(self.looked_at(history, skipped, (cost,) * len(history[1])), right)

    def test_by_hand(self):
        # The last make tells nothing, so what it costs does not matter.
        self.assertEqual(self.looked_at(plain.chain(3), (), (1, 1, 1000)), 2)
        self.assertEqual(self.looked_at(plain.chain(4), (), (1, 1, 1, 9)), 2)
        self.assertEqual(self.looked_at(plain.chain(4), (), (1, 9, 1, 9)), 10)
        self.assertEqual(self.looked_at(plain.chain(4), (), (5, 9, 6, 9)), 15)
        self.assertEqual(cost_tree(plain.chain(2), (), (3, 4)), ("ask", 0, ("found", 0), ("found", 1)))
        # The costs of skipped makes do not count, and those behind them stand at their indices.
        self.assertEqual(self.looked_at(plain.chain(4), (1,), (5, 1, 6, 1)), 11)
        # Dear tests are asked where few ways lead.
        self.assertEqual(self.looked_at(plain.chain(5), (), (2, 3, 100, 1, 1)), 104)
        self.assertEqual(self.looked_at(plain.fan(4), (), (1, 10, 100, 1)), 111)

    def test_one_class(self):
        for history, skipped in ((plain.chain(1), ()), (plain.chain(1), (0,)), (plain.chain(24), tuple(range(24)))):
            costs = (1000,) * len(history[1])
            self.assertEqual(least_cost(history, skipped, costs), 0)
            self.assertEqual(cost_tree(history, skipped, costs), ("found", 0))

    def test_cost_of_any_tree(self):
        costs = (1, 20, 300)
        for tree, right in (
            (("found", 0), 0), (("found", 23), 0), (("nobody",), 0), (("ask", 1, ("nobody",), ("found", 0)), 20),
            (("ask", 0, ("ask", 2, ("nobody",), ("nobody",)), ("ask", 1, ("ask", 0, ("found", 0), ("found", 1)), ("found", 2))), 301),
            (("ask", 0, ("ask", 1, ("nobody",), ("ask", 1, ("found", 0), ("found", 1))), ("ask", 0, ("found", 0), ("found", 0))), 41),
        ):
            self.assertEqual((cost_of(tree, costs), plain_cost(tree, costs)), (right, right))
        tree = ("nobody",)
        for at in range(100):
            tree = ("ask", at % 3, tree, ("found", at)) if at % 2 else ("ask", at % 3, ("found", at), tree)
            self.assertEqual(cost_of(tree, costs), plain_cost(tree, costs))

    def test_too_great(self):
        for history in (plain.chain(10), plain.fan(10), plain.mixed(10, 4, 3)):
            for costs in cost_rows(10):
                self.looked_at(history, (), costs)
        self.looked_at(plain.chain(11), (4,), drawn(11, 1, 1, 1000))
        self.looked_at(plain.chain(24), tuple(range(1, 15)), drawn(24, 1, 1, 1000))
        for history, skipped in ((plain.chain(11), ()), (plain.fan(11), ()), (plain.chain(24), ()), (plain.chain(24), tuple(range(1, 14)))):
            for function in (least_cost, cost_tree):
                with self.assertRaises(TooGreat):
                    function(history, skipped, (1,) * len(history[1]))
        self.assertEqual(cost_of(("ask", 23, ("found", 0), ("found", 1)), (1,) * 24), 1)


if __name__ == "__main__":
    unittest.main()
