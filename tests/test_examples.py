"""The examples of the document."""

import unittest

from firstbreak.answers import verdict
from firstbreak.classes import classes, tests
from firstbreak.errors import BadHistory
from firstbreak.search import fewest
from firstbreak.text import parse
from firstbreak.trees import best_tree, depth_of, followed
from firstbreak.weights import start, weight, weight_bound


class Examples(unittest.TestCase):
    def test_verdicts_and_classes(self):
        history = parse("make a\nmake b from a\nmake c from a\nmake d from b c\n")
        answers = (("works", 0), ("broken", 1))
        self.assertEqual(verdict(history, (), answers, 0), ("one", 1))
        self.assertEqual(verdict(history, (), answers, 1), ("open", (0, 1, 2, 3)))
        self.assertEqual(classes(history, (1,)), ((0,), (1, 3), (2,)))
        self.assertEqual(tests(history, (1,)), (0, 2))

    def test_two_makes_without_a_last_one(self):
        with self.assertRaises(BadHistory) as caught:
            parse("make a\nmake b\n")
        self.assertEqual((caught.exception.line, caught.exception.reason), (0, "not of the last"))

    def test_weights_search_and_trees(self):
        history = parse("make a\nmake b from a\n")
        self.assertEqual((fewest(history, (), 0), fewest(history, (), 1)), (1, 3))
        first = start(history, (), 1)
        self.assertEqual((weight(first, 2), weight_bound(first)), (6, 3))
        tree = best_tree(history, (), start(history, (), 0))
        self.assertEqual(tree, ("ask", 0, ("found", 0), ("found", 1)))
        self.assertEqual(depth_of(tree), 1)
        self.assertEqual(followed(history, tree, 1, ()), ("found", 1))
        self.assertEqual(followed(history, tree, 1, (0,)), ("found", 0))


if __name__ == "__main__":
    unittest.main()
