import unittest

import plain
from firstbreak.errors import TooGreat
from firstbreak.judge import judge_tree
from firstbreak.likely import class_likely, huffman_sum, least_sum, sum_of, sum_tree
from test_costs import AllTrees, drawn, small_games


def likely_rows(n):
    """Rows of likelihoods for n candidates."""
    yield (0,) * n
    yield (1,) * n
    yield (1000,) * n
    yield (0,) * (n - 1) + (5,)
    yield tuple(1000 if at == n // 2 else at % 2 for at in range(n))
    for seed in range(3):
        yield drawn(n, seed, 0, 1000)
        yield drawn(n, seed, 0, 3)


def plain_sum(history, tree, likely):
    """Over all candidates the likelihood times the number of asks on the way."""
    total = 0
    for c, often in enumerate(likely):
        part = tree
        while part[0] == "ask":
            total += often
            part = part[2] if c in plain.walk(history, part[1]) else part[3]
    return total


def plain_huffman(numbers):
    left, total = list(numbers), 0
    while len(left) > 1:
        first = min(left)
        left.remove(first)
        second = min(left)
        left.remove(second)
        left.insert(0, first + second)
        total += first + second
    return total


class Sums(unittest.TestCase):
    def looked_at(self, history, skipped, likely):
        """The least sum, a tree of which was looked at."""
        found = least_sum(history, skipped, likely)
        tree = sum_tree(history, skipped, likely)
        game = plain.Plain(history, skipped)
        self.assertIsNotNone(game.depth(game.start(0), tree))
        self.assertIs(judge_tree(history, skipped, game.start(0), 200, tree), True)
        self.assertEqual((sum_of(history, tree, likely), plain_sum(history, tree, likely)), (found, found))
        # No history has a lesser sum than Huffman's.
        self.assertGreaterEqual(found, huffman_sum(class_likely(history, skipped, likely)))
        return found

    def test_all_trees_tried_out(self):
        for history, skipped in small_games():
            trees = AllTrees(history, skipped)
            for likely in likely_rows(len(history[1])):
                often = {row[0]: sum(likely[c] for c in row) for row in trees.rows}
                right = trees.least(trees.firsts(), lambda left, m, low, high: sum(often[c] for c in left) + low + high)
                self.assertEqual(self.looked_at(history, skipped, likely), right, (history, skipped, likely))

    def test_each_tree_itself(self):
        # Those with asks that are not useful are among them.
        for history in plain.SMALL:
            if len(history[1]) < 4:
                for skipped in plain.subsets(plain.indices(history)):
                    trees = list(AllTrees(history, skipped).trees(AllTrees(history, skipped).firsts()))
                    for likely in likely_rows(len(history[1])):
                        found = [sum_of(history, tree, likely) for tree in trees]
                        self.assertEqual(found, [plain_sum(history, tree, likely) for tree in trees])
                        self.assertEqual(min(found), least_sum(history, skipped, likely))

    def test_by_hand(self):
        self.assertEqual(self.looked_at(plain.chain(2), (), (3, 4)), 7)
        self.assertEqual(self.looked_at(plain.chain(4), (), (1, 1, 1, 1)), 8)
        self.assertEqual(self.looked_at(plain.chain(4), (), (5, 1, 1, 5)), 21)
        self.assertEqual(self.looked_at(plain.chain(4), (), (9, 1, 1, 1)), 17)
        self.assertEqual(self.looked_at(plain.fan(4), (), (4, 3, 2, 1)), 19)
        # Those that are alike go their way together.
        self.assertEqual(self.looked_at(plain.chain(4), (0, 2), (1, 2, 3, 4)), 10)
        self.assertEqual(self.looked_at(plain.chain(4), (1,), (1, 2, 3, 4)), 16)

    def test_one_class(self):
        for history, skipped in ((plain.chain(1), ()), (plain.chain(1), (0,)), (plain.chain(24), tuple(range(24)))):
            likely = (1000,) * len(history[1])
            self.assertEqual(least_sum(history, skipped, likely), 0)
            self.assertEqual(sum_tree(history, skipped, likely), ("found", 0))

    def test_sum_of_any_tree(self):
        history = plain.chain(3)
        for tree, right in (
            (("found", 0), 0), (("nobody",), 0), (("ask", 0, ("found", 0), ("nobody",)), 321),
            (("ask", 0, ("ask", 0, ("found", 2), ("nobody",)), ("ask", 2, ("found", 1), ("nobody",))), 642),
            (("ask", 0, ("found", 0), ("ask", 1, ("found", 1), ("found", 2))), 641),
            (("ask", 1, ("ask", 0, ("found", 0), ("found", 1)), ("found", 2)), 342),
            (("ask", 2, ("ask", 1, ("found", 1), ("ask", 1, ("nobody",), ("found", 2))), ("ask", 0, ("nobody",), ("nobody",))), 942),
        ):
            self.assertEqual(sum_of(history, tree, (1, 20, 300)), right)
        rolls = plain.dice(5)
        for history in (plain.chain(24), plain.mixed(24, 4, 3), plain.fan(24)):
            tree = ("nobody",)
            for at in range(100):
                m = next(rolls) % 24
                tree = ("ask", m, tree, ("found", at)) if next(rolls) % 3 else ("ask", m, ("found", at), tree)
            likely = drawn(24, 9, 0, 1000)
            self.assertEqual(sum_of(history, tree, likely), plain_sum(history, tree, likely))
            tree = ("nobody",)
            for _ in range(100):
                tree = ("ask", 23, tree, ("nobody",))
            self.assertEqual(sum_of(history, tree, likely), 100 * sum(likely))

    def test_too_great(self):
        for history in (plain.chain(10), plain.fan(10), plain.mixed(10, 4, 3)):
            for likely in likely_rows(10):
                self.looked_at(history, (), likely)
        self.looked_at(plain.chain(11), (4,), drawn(11, 1, 0, 1000))
        self.looked_at(plain.chain(24), tuple(range(1, 15)), drawn(24, 1, 0, 1000))
        for history, skipped in ((plain.chain(11), ()), (plain.fan(11), ()), (plain.chain(24), ()), (plain.chain(24), tuple(range(1, 14)))):
            likely = (1,) * len(history[1])
            for function in (least_sum, sum_tree):
                with self.assertRaises(TooGreat):
                    function(history, skipped, likely)
            self.assertEqual(sum(class_likely(history, skipped, likely)), len(history[1]))
            self.assertEqual(sum_of(history, ("ask", 0, ("found", 0), ("nobody",)), likely), len(history[1]))


class Classes(unittest.TestCase):
    def test_added_up(self):
        for history in plain.SAMPLES + [plain.mixed(24, 3, 1)]:
            for skipped in ((), (0,), tuple(plain.indices(history)), tuple(plain.indices(history))[1::2]):
                for likely in likely_rows(len(history[1])):
                    right = tuple(sum(likely[c] for c in row) for row in plain.plain_classes(history, skipped))
                    self.assertEqual(class_likely(history, skipped, likely), right)

    def test_by_hand(self):
        self.assertEqual(class_likely(plain.DIAMOND, (), (1, 20, 300, 4000)), (1, 20, 300, 4000))
        self.assertEqual(class_likely(plain.DIAMOND, (1,), (1, 20, 300, 4000)), (1, 4020, 300))


class Huffman(unittest.TestCase):
    def test_by_hand(self):
        for numbers, right in (
            ((7,), 0), ((0,), 0), ((100000,), 0), ((3, 4), 7), ((1, 1, 1), 5), ((1, 1, 1, 1), 8), ((5, 1, 1, 5), 21),
            ((1, 2, 4, 8), 25), ((8, 1, 4, 2), 25), ((0, 0, 0), 0), ((0, 0, 5), 5), ((1, 1, 2, 2), 12), ((3, 3, 3, 3, 3), 36),
        ):
            self.assertEqual(huffman_sum(numbers), right, numbers)

    def test_taking_the_two_least_together(self):
        for many in range(1, 61):
            for seed in range(4):
                for most in (0, 1, 5, 1000, 100000):
                    numbers = drawn(many, 60 * seed + many, 0, most)
                    self.assertEqual(huffman_sum(numbers), plain_huffman(numbers))
            for row in ((1,) * many, (100000,) * many, tuple(range(many)), tuple(range(many, 0, -1)), (0,) * (many - 1) + (9,)):
                self.assertEqual(huffman_sum(row), plain_huffman(row))
        powers = tuple(min(2 ** at, 100000) for at in range(60))
        self.assertEqual(huffman_sum(powers), plain_huffman(powers))
        self.assertEqual(huffman_sum(powers[::-1]), plain_huffman(powers))

    def test_the_best_of_any_trees(self):
        # Without a history any two parts can be put together; the best of these has Huffman's sum.
        def best(row):
            if len(row) == 1:
                return 0
            found = []
            for at in range(len(row)):
                for beside in range(at):
                    rest = row[:beside] + row[beside + 1:at] + row[at + 1:]
                    found.append(row[at] + row[beside] + best(rest + (row[at] + row[beside],)))
            return min(found)
        for many in range(1, 6):
            for seed in range(6):
                numbers = drawn(many, seed, 0, (3, 1000)[seed % 2])
                self.assertEqual(huffman_sum(numbers), best(numbers))


if __name__ == "__main__":
    unittest.main()
