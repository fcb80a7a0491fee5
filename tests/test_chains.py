import unittest

import plain
from firstbreak.chains import chain_sum, chain_tree
from firstbreak.judge import judge_tree
from firstbreak.likely import huffman_sum, least_sum, sum_of
from test_costs import drawn
from test_likely import likely_rows, plain_sum


def plain_chain_sum(likely):
    """The reckoning by one[i][j], written out."""
    n = len(likely)
    one = [[0] * n for _ in range(n)]
    for i in range(n - 1, -1, -1):
        for j in range(i + 1, n):
            one[i][j] = sum(likely[i:j + 1]) + min(one[i][m] + one[m + 1][j] for m in range(i, j))
    return one[0][n - 1]


def leaves(tree):
    return leaves(tree[2]) + leaves(tree[3]) if tree[0] == "ask" else [tree]


def depths(tree, around=0):
    """For each leaf, in order, how many asks are around it."""
    return depths(tree[2], around + 1) + depths(tree[3], around + 1) if tree[0] == "ask" else [around]


def rows(step=12):
    """Rows of likelihoods, for 1 to 60 candidates; with step 1 of each length."""
    for n in [*range(1, 25), *range(24 + step, 61, step)]:
        yield from ((0,) * n, (1,) * n, drawn(n, n, 0, 1000))
        if n < 25:
            yield from likely_rows(n)
        else:
            yield drawn(n, n, 0, 3)
    yield (1000,) * 60
    yield tuple(range(60))
    yield tuple(min(2 ** at, 1000) for at in range(60))
    yield tuple(1000 if at % 7 == 0 else 0 for at in range(60))


class Chains(unittest.TestCase):
    def test_the_reckoning(self):
        for likely in rows(1):
            self.assertEqual(chain_sum(likely), plain_chain_sum(likely), likely)

    def test_trees(self):
        for likely in rows():
            tree = chain_tree(likely)
            n = len(likely)
            self.assertEqual(leaves(tree), [("found", c) for c in range(n)])
            self.assertEqual(sum(often * deep for often, deep in zip(likely, depths(tree))), chain_sum(likely))
            if n < 25:
                history = plain.chain(n)
                self.assertIs(judge_tree(history, (), (0,) * n, 200, tree), True)
                self.assertEqual(sum_of(history, tree, likely), chain_sum(likely))
                self.assertEqual(plain_sum(history, tree, likely), chain_sum(likely))

    def test_asks(self):
        # An ask of a make parts the leaves up to it from those behind it, in longer chains than histories are, too.
        def check(tree, first, last):
            if tree[0] == "found":
                self.assertEqual((tree, first), (("found", first), last))
            else:
                word, m, broken, works = tree
                self.assertEqual(word, "ask")
                self.assertTrue(first <= m < last)
                check(broken, first, m)
                check(works, m + 1, last)
        for likely in rows():
            check(chain_tree(likely), 0, len(likely) - 1)

    def test_the_least_sum_of_the_chain(self):
        for n in range(1, 11):
            for likely in likely_rows(n):
                self.assertEqual(chain_sum(likely), least_sum(plain.chain(n), (), likely))

    def test_huffman(self):
        for likely in rows():
            self.assertLessEqual(huffman_sum(likely), chain_sum(likely))
            self.assertLessEqual(chain_sum(likely), huffman_sum(likely) + 2 * sum(likely))

    def test_by_hand(self):
        for likely, right in (((9,), 0), ((3, 1), 4), ((1, 1, 1), 5), ((5, 1, 1, 5), 21), ((1, 5, 5, 1), 24), ((0, 0, 0, 7), 7)):
            self.assertEqual(chain_sum(likely), right)
        self.assertEqual(chain_tree((9,)), ("found", 0))
        self.assertEqual(chain_tree((1, 1, 9)), ("ask", 1, ("ask", 0, ("found", 0), ("found", 1)), ("found", 2)))
        self.assertEqual(chain_tree((9, 1, 1)), ("ask", 0, ("found", 0), ("ask", 1, ("found", 1), ("found", 2))))
        # Huffman's sum is less where he puts together what is not side by side.
        self.assertEqual((huffman_sum((1, 5, 1, 5)), chain_sum((1, 5, 1, 5))), (21, 24))


if __name__ == "__main__":
    unittest.main()
