import unittest
from itertools import product

import plain
from firstbreak.errors import TooGreat
from firstbreak.judge import judge_table, judge_tree
from firstbreak.trees import best_tree, depth_of, followed, table_of


def samples():
    """Histories with skipped makes and states to try out."""
    for history in plain.SMALL:
        for state in product((-1, 0, 1), repeat=len(history[1])):
            yield history, (), state
    for history in plain.SMALL + plain.SAMPLES[-4:]:
        for skipped in plain.subsets(plain.indices(history), 2):
            many = len(plain.plain_classes(history, skipped))
            yield history, skipped, (0,) * many
            yield history, skipped, tuple(at % 3 - 1 for at in range(many))


class Trees(unittest.TestCase):
    def test_of_just_the_fewest_tests(self):
        for history, skipped, state in samples():
            game = plain.Plain(history, skipped)
            tree = best_tree(history, skipped, state)
            depth = game.fewest(state)
            self.assertEqual(game.depth(state, tree), depth)
            self.assertEqual(depth_of(tree), depth)
            self.assertIs(judge_tree(history, skipped, state, depth, tree), True)
            self.assertIs(judge_tree(history, skipped, state, depth + 3, tree), True)
            if depth:
                self.assertIs(judge_tree(history, skipped, state, depth - 1, tree), False)

    def test_settled_states(self):
        self.assertEqual(best_tree(plain.chain(3), (), (-1, 4, -1)), ("found", 1))
        self.assertEqual(best_tree(plain.chain(3), (), (-1, -1, -1)), ("nobody",))
        self.assertEqual(best_tree(plain.chain(3), (0, 1, 2), (2,)), ("found", 0))
        self.assertEqual(best_tree(plain.chain(1), (), (20,)), ("found", 0))

    def test_depth_of(self):
        found, nobody = ("found", 0), ("nobody",)
        self.assertEqual([depth_of(found), depth_of(nobody)], [0, 0])
        low = ("ask", 0, found, nobody)
        self.assertEqual(depth_of(low), 1)
        self.assertEqual([depth_of(("ask", 1, low, found)), depth_of(("ask", 1, nobody, low))], [2, 2])
        self.assertEqual(depth_of(("ask", 1, ("ask", 0, low, found), low)), 3)
        tree = found
        for depth in range(1, 101):
            tree = ("ask", 0, tree, nobody) if depth % 2 else ("ask", 0, nobody, tree)
            self.assertEqual(depth_of(tree), depth)

    def test_fourteen_asks_and_fifteen(self):
        for history, state in ((plain.chain(2), (6, 7)), (plain.chain(3), (4, 4, 4)), (plain.chain(2), (13, 0))):
            tree = best_tree(history, (), state)
            self.assertEqual(plain.Plain(history).depth(state, tree), 14)
        for history, state in ((plain.chain(2), (7, 7)), (plain.chain(2), (14, 0)), (plain.fan(4), (3, 3, 3, 3))):
            with self.assertRaises(TooGreat):
                best_tree(history, (), state)

    def test_too_many_states(self):
        with self.assertRaises(TooGreat):
            best_tree(plain.chain(15), (), (0,) * 15)
        for state in ((-1,) * 15, (0,) + (-1,) * 14):
            with self.assertRaises(TooGreat):
                best_tree(plain.chain(15), (), state)
        self.assertEqual(depth_of(best_tree(plain.chain(14), (), (0,) * 14)), 4)


class Followed(unittest.TestCase):
    def test_leads_to_the_class(self):
        for history, skipped in ((plain.chain(4), ()), (plain.fan(4), (3,)), (plain.history_of((), (0,), (0,), (1, 2)), (1,))):
            game = plain.Plain(history, skipped)
            for k in range(2):
                tree = best_tree(history, skipped, game.start(k))
                for truth in plain.indices(history):
                    right = [at for at, row in enumerate(game.rows) if truth in row][0]
                    for lies in plain.subsets(range(depth_of(tree)), k):
                        self.assertEqual(followed(history, tree, truth, lies), ("found", right))

    def test_by_hand(self):
        history = plain.chain(3)
        ends = [("found", at) for at in range(8)]
        low = [("ask", 1, ends[at], ends[at + 1]) for at in (0, 2, 4)] + [("nobody",)]
        tree = ("ask", 0, ("ask", 2, low[0], low[1]), ("ask", 1, low[2], low[3]))
        for truth, lies, right in (
            (0, (), ends[0]), (1, (), ends[4]), (2, (), ("nobody",)), (0, (0,), ends[4]), (1, (0,), ends[0]),
            (2, (0,), ends[1]), (0, (1,), ends[2]), (0, (2,), ends[1]), (0, (0, 1), ("nobody",)), (1, (2,), ends[5]),
            (0, (1, 2), ends[3]), (0, (3, 4, 5), ends[0]), (2, (1, 2), ends[4]), (2, (1,), ends[5]),
        ):
            self.assertEqual(followed(history, tree, truth, lies), right)
        self.assertEqual(followed(history, ends[1], 0, (0, 1)), ends[1])
        self.assertEqual(followed(history, ("nobody",), 0, ()), ("nobody",))


class Tables(unittest.TestCase):
    def test_below_the_fewest_tests(self):
        many = 0
        for history, skipped, state in samples():
            game = plain.Plain(history, skipped)
            depth = game.fewest(state)
            for q in range(depth):
                table = table_of(history, skipped, state, q)
                self.assertTrue(game.is_table(state, q, table))
                self.assertIs(judge_table(history, skipped, state, q, table), True)
                many += len(table)
            for q in (depth, depth + 1, 200):
                self.assertIsNone(table_of(history, skipped, state, q))
        self.assertGreater(many, 1000)

    def test_great_numbers(self):
        for history, state in ((plain.chain(2), (20, 20)), (plain.chain(3), (20, 3, 5)), (plain.fan(4), (5, 0, 7, 2))):
            game = plain.Plain(history)
            q = 0
            while table_of(history, (), state, q) is not None:
                self.assertTrue(game.is_table(state, q, table_of(history, (), state, q)))
                q += 1
            self.assertTrue(game.within(state, q) and not game.within(state, q - 1))

    def test_rows_that_are_no_leaves(self):
        history = plain.fan(5)
        table = table_of(history, (), (0,) * 5, 3)
        self.assertGreater(len(table), 1)
        self.assertTrue(plain.Plain(history).is_table((0,) * 5, 3, table))

    def test_too_many_states(self):
        for state in ((0,) * 15, (-1,) * 15, (0,) + (-1,) * 14):
            for q in (0, 200):
                with self.assertRaises(TooGreat):
                    table_of(plain.chain(15), (), state, q)
        self.assertIsNone(table_of(plain.chain(14), (), (-1,) * 14, 0))
        self.assertIsNone(table_of(plain.chain(2), (), (20, 20), 41))


if __name__ == "__main__":
    unittest.main()
