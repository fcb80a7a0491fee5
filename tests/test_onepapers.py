import unittest
from itertools import product

import plain
from firstbreak.errors import TooGreat
from firstbreak.onepapers import judge_table_one, judge_tree_one, table_one, tree_one
from firstbreak.trees import best_tree, depth_of, table_of
from spoilt import ODD_THINGS, misshapen, misshapen_tables, other_tables, others, parts_of


def samples():
    """Histories with skipped makes and states to try out."""
    for history in plain.SMALL:
        for state in product((-1, 0, 1), repeat=len(history[1])):
            yield history, (), state
    for history in plain.SMALL + plain.SAMPLES[-4:]:
        for skipped in plain.subsets(plain.indices(history), 2):
            many = len(plain.plain_classes(history, skipped))
            yield history, skipped, (0,) * many
            yield history, skipped, tuple(at % 3 - 1 for at in range(many))
    for history in (plain.chain(4), plain.fan(4), plain.DIAMOND):
        for state in ((2, 2, 2, 2), (2, 0, 1, -1), (0, 3, 0, 0), (-1, 4, -1, 1)):
            yield history, (), state


class Trees(unittest.TestCase):
    history = plain.DIAMOND

    def test_of_just_the_fewest_tests(self):
        for history, skipped, state in samples():
            game = plain.PlainOne(history, skipped)
            tree = tree_one(history, skipped, state)
            depth = game.fewest(state)
            self.assertEqual(game.depth(state, tree), depth)
            self.assertEqual(depth_of(tree), depth)
            self.assertIs(judge_tree_one(history, skipped, state, depth, tree), True)
            self.assertIs(judge_tree_one(history, skipped, state, depth + 3, tree), True)
            self.assertIs(judge_tree_one(history, skipped, state, 200, tree), True)
            if depth:
                self.assertIs(judge_tree_one(history, skipped, state, depth - 1, tree), False)

    def test_settled_states(self):
        self.assertEqual(tree_one(plain.chain(3), (), (-1, 4, -1)), ("found", 1))
        self.assertEqual(tree_one(plain.chain(3), (), (-1, -1, -1)), ("nobody",))
        self.assertEqual(tree_one(plain.chain(3), (0, 1, 2), (2,)), ("found", 0))

    def test_by_hand(self):
        tree = ("ask", 0, ("found", 0), ("ask", 0, ("found", 0), ("found", 1)))
        self.assertEqual(tree_one(plain.chain(2), (), (1, 1)), tree)
        self.assertIs(judge_tree_one(plain.chain(2), (), (1, 1), 2, tree), True)

    def test_fourteen_asks_and_fifteen(self):
        for n, state in ((2, (13, 13)), (2, (13, 0)), (3, (12, 12, 12)), (3, (0, 13, 5)), (2, (13, 20))):
            tree = tree_one(plain.chain(n), (), state)
            self.assertEqual(plain.PlainOne(plain.chain(n)).depth(state, tree), 14)
        for n, state in ((2, (14, 14)), (2, (14, 0)), (2, (20, 20)), (3, (13, 13, 1)), (3, (20, 20, 20))):
            self.assertGreaterEqual(plain.PlainOne(plain.chain(n)).fewest(state), 15)
            with self.assertRaises(TooGreat):
                tree_one(plain.chain(n), (), state)

    def test_too_many_states(self):
        for state in ((0,) * 15, (-1,) * 15, (0,) + (-1,) * 14):
            with self.assertRaises(TooGreat):
                tree_one(plain.chain(15), (), state)
        self.assertEqual(depth_of(tree_one(plain.chain(14), (), (0,) * 14)), 4)

    def test_spoilt_parts(self):
        right = 0
        for skipped in ((), (1,), (3,), (0, 2)):
            game = plain.PlainOne(self.history, skipped)
            for k in range(2):
                state = game.start(k)
                tree = tree_one(self.history, skipped, state)
                for part, put in parts_of(tree):
                    for other in others(game, part):
                        is_right = game.depth(state, put(other)) is not None
                        self.assertIs(judge_tree_one(self.history, skipped, state, 200, put(other)), is_right)
                        right += not is_right
                    for other in misshapen(part):
                        self.assertIs(judge_tree_one(self.history, skipped, state, 200, put(other)), False, put(other))
        self.assertGreater(right, 500)

    def test_trees_for_two_sides_are_others(self):
        history = plain.chain(2)
        one, two = tree_one(history, (), (1, 1)), best_tree(history, (), (1, 1))
        self.assertIs(judge_tree_one(history, (), (1, 1), 200, two), False)
        self.assertIs(judge_tree_one(history, (), (0, 0), 1, best_tree(history, (), (0, 0))), True)
        self.assertIsNone(plain.Plain(history).depth((1, 1), one))

    def test_asks_anywhere(self):
        history = plain.chain(2)
        low = ("ask", 0, ("found", 0), ("found", 1))
        # Behind a works of the last make, which contradicts all, nobody is in.
        useless = ("ask", 1, low, ("nobody",))
        self.assertIs(judge_tree_one(history, (), (0, 0), 2, useless), True)
        self.assertIs(judge_tree_one(history, (), (0, 0), 1, useless), False)
        settled = ("ask", 0, ("found", 0), ("ask", 0, ("nobody",), ("found", 1)))
        self.assertIs(judge_tree_one(history, (), (0, 5), 2, settled), True)
        self.assertIs(judge_tree_one(history, (), (0, 5), 1, settled), False)
        self.assertIs(judge_tree_one(history, (), (-1, -1), 1, ("ask", 0, ("nobody",), ("nobody",))), True)
        tree = low
        for depth in range(2, 101):
            tree = ("ask", 1, tree, ("nobody",))
            self.assertIs(judge_tree_one(history, (), (0, 0), depth, tree), True)
            self.assertIs(judge_tree_one(history, (), (0, 0), depth - 1, tree), False)

    def test_ends(self):
        for state in product((-1, 0, 1), repeat=3):
            inside = [at for at, left in enumerate(state) if left >= 0]
            for at in range(-3, 4):
                self.assertIs(judge_tree_one(plain.chain(3), (), state, 0, ("found", at)), inside == [at])
            self.assertIs(judge_tree_one(plain.chain(3), (), state, 0, ("nobody",)), not inside)

    def test_skipped_makes(self):
        tree = ("ask", 1, ("found", 0), ("found", 1))
        self.assertIs(judge_tree_one(plain.chain(3), (0,), (0, 0), 1, tree), True)
        self.assertIs(judge_tree_one(plain.chain(3), (1,), (0, 0), 1, tree), False)

    def test_true_in_the_place_of_an_integer(self):
        history = plain.chain(3)
        tree = ("ask", 1, ("ask", 0, ("found", 0), ("found", 1)), ("found", 2))
        self.assertIs(judge_tree_one(history, (), (0, 0, 0), 2, tree), True)
        self.assertIs(judge_tree_one(history, (), (0, 0, 0), 2, ("ask", True) + tree[2:]), False)
        self.assertIs(judge_tree_one(history, (), (-1, 3, -1), 0, ("found", True)), False)
        self.assertIs(judge_tree_one(history, (), (3, -1, -1), 0, ("found", False)), False)

    def test_great_states(self):
        history = plain.chain(24)
        self.assertIs(judge_tree_one(history, (), (-1,) * 24, 0, ("nobody",)), True)
        self.assertIs(judge_tree_one(history, (), (20,) * 24, 200, ("nobody",)), False)
        self.assertIs(judge_tree_one(history, (), (-1,) * 23 + (20,), 0, ("found", 23)), True)


class Tables(unittest.TestCase):
    history = plain.fan(5)
    state = (0,) * 5

    def test_below_the_fewest_tests(self):
        many = 0
        for history, skipped, state in samples():
            game = plain.PlainOne(history, skipped)
            depth = game.fewest(state)
            for q in range(depth):
                table = table_one(history, skipped, state, q)
                self.assertTrue(game.is_table(state, q, table))
                self.assertIs(judge_table_one(history, skipped, state, q, table), True)
                many += len(table)
            for q in (depth, depth + 1, 200):
                self.assertIsNone(table_one(history, skipped, state, q))
        self.assertGreater(many, 2000)

    def test_great_numbers(self):
        for history, state in ((plain.chain(2), (20, 20)), (plain.chain(3), (20, 3, 5)), (plain.fan(4), (5, 0, 7, 2))):
            game = plain.PlainOne(history)
            depth = game.fewest(state)
            for q in range(depth):
                table = table_one(history, (), state, q)
                self.assertTrue(game.is_table(state, q, table))
                self.assertIs(judge_table_one(history, (), state, q, table), True)
            self.assertIsNone(table_one(history, (), state, depth))

    def test_too_many_states(self):
        for state in ((0,) * 15, (-1,) * 15, (0,) + (-1,) * 14):
            for q in (0, 200):
                with self.assertRaises(TooGreat):
                    table_one(plain.chain(15), (), state, q)
        self.assertIsNone(table_one(plain.chain(14), (), (-1,) * 14, 0))
        self.assertIsNone(table_one(plain.chain(2), (), (20, 20), 21))

    def compare(self, game, state, q, rows):
        self.assertIs(
            judge_table_one(game.history, game.skipped, state, q, rows), game.is_table(state, q, rows), (state, q, rows),
        )

    def test_spoilt_tables(self):
        for history, skipped, k in (
            (plain.fan(5), (), 0), (plain.fan(4), (), 1), (plain.chain(4), (), 1), (plain.fan(5), (1,), 1),
            (plain.DIAMOND, (), 2),
        ):
            game = plain.PlainOne(history, skipped)
            state = game.start(k)
            for q in range(game.fewest(state)):
                table = table_one(history, skipped, state, q)
                for rows in other_tables(q, table):
                    self.compare(game, state, q, rows)

    def test_misshapen_tables(self):
        table = table_one(self.history, (), self.state, 3)
        self.assertGreater(len(table), 2)
        self.assertIs(judge_table_one(self.history, (), self.state, 3, table), True)
        for thing in ODD_THINGS + (list(table), dict(table), table[0], (table,), table + (None,), (0,) + table):
            self.assertIs(judge_table_one(self.history, (), self.state, 3, thing), False, thing)
        for spoilt in misshapen_tables(3, table):
            self.assertIs(judge_table_one(self.history, (), self.state, 3, spoilt), False, spoilt)

    def test_each_row_is_needed(self):
        for q in range(4):
            table = table_one(self.history, (), self.state, q)
            for at in range(len(table)):
                self.assertIs(judge_table_one(self.history, (), self.state, q, table[:at] + table[at + 1:]), False)

    def test_weight_is_nothing_here(self):
        # Two classes that weigh more than 2 ** 1 with 1 are a table for two-sided false answers alone.
        history = plain.chain(2)
        self.assertEqual(table_of(history, (), (1, 1), 1), ((1, (1, 1)),))
        self.assertIs(judge_table_one(history, (), (1, 1), 1, ((1, (1, 1)),)), False)
        self.assertEqual(table_one(history, (), (1, 1), 1), ((0, (0, 1)), (1, (1, 1))))
        self.assertIs(judge_table_one(history, (), (1, 1), 1, ((0, (0, 1)), (1, (1, 1)))), True)
        # One class alone is settled, however much it weighs.
        for row in ((0, (20, -1)), (1, (20, -1)), (0, (-1, -1)), (1, (-1, 0))):
            self.assertIs(judge_table_one(history, (), row[1], row[0], (row,)), False)
            self.assertIs(judge_table_one(history, (), (1, 1), 1, tuple(sorted((row, (0, (0, 1)), (1, (1, 1)))))), False)

    def test_bounds(self):
        history = plain.chain(3)
        state = (0, 0, 0)
        for row, right in (
            ((0, (-1, 20, 20)), True), ((0, (20, 20, 20)), True), ((0, (-1, 20, 21)), False), ((0, (-2, 20, 20)), False),
            ((0, (-1, -1, 20)), False), ((0, (-1, -1, -1)), False), ((0, (-1, 0, 0)), True), ((1, (-1, 0, 0)), False),
            ((-1, (-1, 0, 0)), False), ((-1, (0, 0, 0)), False),
        ):
            table = tuple(sorted((row, (0, state))))
            self.assertIs(judge_table_one(history, (), state, 0, table), right, row)
        self.assertIs(judge_table_one(history, (), state, 0, ((0, state),)), True)
        self.assertIs(judge_table_one(history, (), state, 0, ((0, (1, 1, 1)),)), False)

    def test_rows_that_are_not_needed(self):
        history = plain.chain(2)
        table = ((0, (0, 0)), (0, (0, 1)), (1, (1, 1)))
        self.assertIs(judge_table_one(history, (), (1, 1), 1, table), True)
        self.assertIs(judge_table_one(history, (), (1, 1), 1, table[::-1]), False)
        self.assertIs(judge_table_one(history, (), (1, 1), 1, table[:1] + table[2:]), False)


if __name__ == "__main__":
    unittest.main()
