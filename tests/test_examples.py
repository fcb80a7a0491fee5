"""The examples of the document."""

import unittest

from firstbreak.answerer import Answerer
from firstbreak.answers import verdict
from firstbreak.chains import chain_sum, chain_tree
from firstbreak.classes import classes, tests
from firstbreak.counts import counts_after, counts_weight, fewest_counts
from firstbreak.desk import Desk
from firstbreak.errors import BadHistory
from firstbreak.halving import even_most, even_test, parts_by, two_bound
from firstbreak.hunt import Hunt
from firstbreak.likely import huffman_sum
from firstbreak.onesided import after_one, can_be_one, fewest_one
from firstbreak.patches import fewest_patches, next_numbers
from firstbreak.search import fewest
from firstbreak.text import parse, shown
from firstbreak.tools import between, gates, main_line, merges, reduced, sides, to_blame, up_to, ways
from firstbreak.trees import best_tree, depth_of, followed
from firstbreak.treetext import parse_tree, shown_tree
from firstbreak.weights import start, weight, weight_bound


class Examples(unittest.TestCase):
    def test_verdicts_and_classes(self):
        history = parse("make a\nmake b from a\nmake c from a\nmake d from b c\n")
        answers = (("works", 0), ("broken", 1))
        self.assertEqual(verdict(history, (), answers, 0), ("one", 1))
        self.assertEqual(verdict(history, (), answers, 1), ("open", (0, 1, 2, 3)))
        self.assertEqual(classes(history, (1,)), ((0,), (1, 3), (2,)))
        self.assertEqual(tests(history, (1,)), (0, 2))

    def test_two_makes_without_a_last_one(self):
        with self.assertRaises(BadHistory) as caught:
            parse("make a\nmake b\n")
        self.assertEqual((caught.exception.line, caught.exception.reason), (0, "not of the last"))

    def test_weights_search_and_trees(self):
        history = parse("make a\nmake b from a\n")
        self.assertEqual((fewest(history, (), 0), fewest(history, (), 1)), (1, 3))
        first = start(history, (), 1)
        self.assertEqual((weight(first, 2), weight_bound(first)), (6, 3))
        tree = best_tree(history, (), start(history, (), 0))
        self.assertEqual(tree, ("ask", 0, ("found", 0), ("found", 1)))
        self.assertEqual(depth_of(tree), 1)
        self.assertEqual(followed(history, tree, 1, ()), ("found", 1))
        self.assertEqual(followed(history, tree, 1, (0,)), ("found", 0))

    def test_halving(self):
        history = parse("make a\nmake b from a\nmake c from b\nmake d from c\n")
        self.assertEqual(even_test(history, (0, 1, 2, 3)), 1)
        self.assertEqual(parts_by(history, (0, 1, 2, 3), 1), ((0, 1), (2, 3)))
        self.assertEqual((even_most(history, (0, 1, 2, 3)), two_bound(4)), (2, 3))

    def test_looking_at_histories(self):
        history = parse("make a\nmake b from a\nmake c from a\nmake d from a b c\nmake e from d\n")
        self.assertEqual((merges(history), sides(history, 3), main_line(history)), ((3,), ((0,), (1,), (2,)), (4, 3, 0)))
        self.assertEqual((ways(history, 0), gates(history, 0), gates(history, 1)), (3, (0, 3, 4), (1, 3, 4)))
        right = "make a\nmake b from a\nmake c from a\nmake d from b c\nmake e from d\n"
        self.assertEqual(shown(reduced(history)), right)
        self.assertEqual(between(history, (3,), (1,)), (2, 3))
        self.assertEqual(to_blame(history, (("broken", 1), ("works", 0))), (1,))
        self.assertEqual(shown(up_to(history, 2)), "make a\nmake c from a\n")

    def test_patches(self):
        self.assertEqual((fewest_patches(2), fewest_patches(3), fewest_patches(1000000)), (3, 5, 25))
        self.assertEqual((next_numbers(2, 2), next_numbers(1, 2)), ((1, 1), (1, 0)))
        self.assertEqual((counts_after((4, 0), (2, 0), True), counts_weight((4, 0), 5)), ((2, 2), 24))
        self.assertEqual((fewest_counts(4, 1), fewest_counts(2, 2)), (5, 5))
        hunt = Hunt(3)
        self.assertEqual((hunt.test(), hunt.most()), ((0, 1), 5))
        self.assertIsNone(hunt.tell(False))
        self.assertEqual((hunt.left(), hunt.test(), hunt.most()), (((2,), (0, 1)), (2,), 3))

    def test_one_sided(self):
        history = parse("make a\nmake b from a\n")
        self.assertEqual([fewest_one(history, (), k) for k in range(3)], [1, 2, 3])
        self.assertEqual(after_one(history, (), (1, 1), ("broken", 0)), (1, -1))
        self.assertEqual(can_be_one(history, (("works", 0),), 0), (1,))
        self.assertEqual(can_be_one(history, (("works", 0),), 1), (0, 1))
        self.assertEqual(can_be_one(history, (("broken", 0),), 5), (0,))

    def test_answerer(self):
        history = parse("make a\nmake b from a\nmake c from b\n")
        answerer = Answerer(history, (), start(history, (), 0))
        self.assertEqual((answerer.needed(), answerer.test(0), answerer.state()), (2, "works", (-1, 0, 0)))
        self.assertEqual((answerer.needed(), answerer.test(1), answerer.state()), (1, "broken", (-1, 0, -1)))

    def test_desk(self):
        makes = (("a", ()), ("b", (0,)), ("c", (0,)), ("d", (1, 2)))
        for k, right in ((0, (("b",), "certain", "")), (1, (("a", "b", "c", "d"), "open", "b"))):
            desk = Desk(("history", makes), k, "all")
            self.assertIsNone(desk.do(("answer", "works", "a")))
            self.assertIsNone(desk.do(("answer", "broken", "b")))
            self.assertEqual((desk.can_be(), desk.state(), desk.evenest()), right)

    def test_chains(self):
        self.assertEqual((chain_sum((5, 1, 1, 5)), huffman_sum((5, 1, 1, 5))), (21, 21))
        self.assertEqual(chain_tree((3, 1)), ("ask", 0, ("found", 0), ("found", 1)))

    def test_texts_of_trees(self):
        history = parse("make a\nmake b from a\n")
        self.assertEqual(shown_tree(history, ("ask", 0, ("found", 0), ("found", 1))), "ask a\n  found 0\n  found 1\n")
        with self.assertRaises(BadHistory) as caught:
            parse_tree(parse("make a\n"), "ask a\n  found 0\n")
        self.assertEqual((caught.exception.line, caught.exception.reason), (3, "not ended"))


if __name__ == "__main__":
    unittest.main()
