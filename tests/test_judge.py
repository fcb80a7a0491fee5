import unittest
from itertools import product

import plain
from firstbreak.judge import judge_table, judge_tree
from firstbreak.trees import best_tree, table_of
from spoilt import ODD_THINGS, misshapen, misshapen_tables, other_tables, others, parts_of


class Trees(unittest.TestCase):
    history = plain.history_of((), (0,), (0,), (1, 2))

    def games(self):
        for skipped in ((), (1,), (3,), (0, 2)):
            game = plain.Plain(self.history, skipped)
            for k in range(2):
                state = game.start(k)
                yield game, skipped, state, game.fewest(state), best_tree(self.history, skipped, state)

    def test_depth(self):
        for _, skipped, state, depth, tree in self.games():
            for q in range(depth + 4):
                self.assertIs(judge_tree(self.history, skipped, state, q, tree), q >= depth)
            self.assertIs(judge_tree(self.history, skipped, state, 200, tree), True)

    def test_spoilt_parts(self):
        for game, skipped, state, depth, tree in self.games():
            for part, put in parts_of(tree):
                for other in others(game, part):
                    right = game.depth(state, put(other)) is not None
                    self.assertIs(judge_tree(self.history, skipped, state, 200, put(other)), right)
                for other in misshapen(part):
                    self.assertIs(judge_tree(self.history, skipped, state, 200, put(other)), False, put(other))

    def test_skipped_makes(self):
        history = plain.chain(3)
        tree = ("ask", 1, ("found", 0), ("found", 1))
        self.assertIs(judge_tree(history, (0,), (0, 0), 1, tree), True)
        self.assertIs(judge_tree(history, (1,), (0, 0), 1, tree), False)
        self.assertIs(judge_tree(history, (1,), (0, 0), 1, ("ask", 0, ("found", 0), ("found", 1))), True)
        self.assertIs(judge_tree(history, (0,), (0, 0), 1, ("ask", 0, ("found", 0), ("found", 1))), False)

    def test_asks_anywhere(self):
        history = plain.chain(2)
        low = ("ask", 0, ("found", 0), ("found", 1))
        # Behind a works of the last make, which contradicts all, nobody is in.
        useless = ("ask", 1, low, ("nobody",))
        self.assertIs(judge_tree(history, (), (0, 0), 2, useless), True)
        self.assertIs(judge_tree(history, (), (0, 0), 1, useless), False)
        settled = ("ask", 0, ("found", 0), ("ask", 0, ("nobody",), ("found", 1)))
        self.assertIs(judge_tree(history, (), (0, 0), 2, settled), True)
        self.assertIs(judge_tree(history, (), (0, -1), 1, ("ask", 0, ("found", 0), ("nobody",))), True)
        self.assertIs(judge_tree(history, (), (-1, -1), 1, ("ask", 0, ("nobody",), ("nobody",))), True)
        self.assertIs(judge_tree(history, (), (-1, -1), 0, ("ask", 0, ("nobody",), ("nobody",))), False)
        tree = low
        for depth in range(2, 101):
            tree = ("ask", 1, tree, ("nobody",))
            self.assertIs(judge_tree(history, (), (0, 0), depth, tree), True)
            self.assertIs(judge_tree(history, (), (0, 0), depth - 1, tree), False)

    def test_ends(self):
        history = plain.chain(3)
        for state in product((-1, 0, 1), repeat=3):
            inside = [at for at, left in enumerate(state) if left >= 0]
            for at in range(-3, 4):
                self.assertIs(judge_tree(history, (), state, 0, ("found", at)), inside == [at])
            self.assertIs(judge_tree(history, (), state, 0, ("nobody",)), not inside)
        for state, right in (((0, -1, -1), ("found", False)), ((-1, 0, -1), ("found", True)), ((-1, 0, -1), ("found", 1.0))):
            self.assertIs(judge_tree(history, (), state, 0, right), False)

    def test_misshapen_trees_of_settled_states(self):
        for state, right in (((-1, -1), ("nobody",)), ((0, -1), ("found", 0)), ((-1, 0), ("found", 1))):
            for q in (0, 5):
                self.assertIs(judge_tree(plain.chain(2), (), state, q, right), True)
                for thing in misshapen(right):
                    self.assertIs(judge_tree(plain.chain(2), (), state, q, thing), False, thing)

    def test_true_in_the_place_of_a_make(self):
        history = plain.chain(3)
        first = (("found", 0), ("ask", 1, ("found", 1), ("found", 2)))
        second = (("ask", 0, ("found", 0), ("found", 1)), ("found", 2))
        for m, wrong, parts in ((0, False, first), (1, True, second)):
            self.assertIs(judge_tree(history, (), (0, 0, 0), 2, ("ask", m) + parts), True)
            self.assertIs(judge_tree(history, (), (0, 0, 0), 2, ("ask", wrong) + parts), False)

    def test_great_states(self):
        history = plain.chain(24)
        self.assertIs(judge_tree(history, (), (-1,) * 24, 0, ("nobody",)), True)
        self.assertIs(judge_tree(history, (), (20,) * 24, 200, ("nobody",)), False)
        self.assertIs(judge_tree(history, (), (-1,) * 23 + (20,), 0, ("found", 23)), True)


class Tables(unittest.TestCase):
    history = plain.fan(5)
    state = (0,) * 5

    def compare(self, game, state, q, rows):
        self.assertIs(
            judge_table(game.history, game.skipped, state, q, rows), game.is_table(state, q, rows), (state, q, rows),
        )

    def test_spoilt_tables(self):
        for history, skipped, k in (
            (plain.fan(5), (), 0), (plain.fan(4), (), 1), (plain.chain(4), (), 1), (plain.fan(5), (1,), 1),
            (plain.history_of((), (0,), (0,), (1, 2)), (), 2),
        ):
            game = plain.Plain(history, skipped)
            state = game.start(k)
            for q in range(game.fewest(state)):
                table = table_of(history, skipped, state, q)
                for rows in other_tables(q, table):
                    self.compare(game, state, q, rows)

    def test_misshapen_tables(self):
        table = table_of(self.history, (), self.state, 3)
        self.assertGreater(len(table), 2)
        self.assertIs(judge_table(self.history, (), self.state, 3, table), True)
        for thing in ODD_THINGS + (list(table), dict(table), table[0], (table,), table + (None,), (0,) + table):
            self.assertIs(judge_table(self.history, (), self.state, 3, thing), False, thing)

    def test_misshapen_rows(self):
        table = table_of(self.history, (), self.state, 3)
        for spoilt in misshapen_tables(3, table):
            self.assertIs(judge_table(self.history, (), self.state, 3, spoilt), False, spoilt)

    def test_bounds_of_p(self):
        history = plain.chain(2)
        rows = tuple((p, (1, 1)) for p in range(-1, 4))
        for q in range(3):
            for low in range(4):
                for high in range(low + 1, 6):
                    right = low >= 1 and rows[high - 1][0] == q
                    self.assertIs(judge_table(history, (), (1, 1), q, rows[low:high]), right)

    def test_bounds_of_numbers(self):
        history = plain.chain(3)
        state = (0, 0, 0)
        for row, right in (
            ((0, (-1, 20, 20)), True), ((0, (20, 20, 20)), True), ((0, (-1, 20, 21)), False), ((0, (-2, 20, 20)), False),
            ((0, (-1, -1, 20)), False), ((0, (-1, -1, -1)), False), ((0, (-1, 0, 0)), True),
        ):
            table = tuple(sorted((row, (0, state))))
            self.assertIs(judge_table(history, (), state, 0, table), right, row)

    def test_rows_of_one_class(self):
        history = plain.chain(2)
        for row in ((0, (0, -1)), (0, (5, -1)), (1, (5, -1)), (1, (-1, -1)), (1, (-1, 20))):
            table = tuple(sorted((row, (1, (1, 1)))))
            self.assertIs(judge_table(history, (), (1, 1), 1, table), False)
            self.assertIs(judge_table(history, (), row[1], row[0], (row,)), False)

    def test_either_answer_is_enough(self):
        # The weight of four classes is just 2 ** 2, so the row with 2 needs rows with 1.
        history = plain.fan(4)
        state = (0, 0, 0, 0)
        needed = [(1, tuple(-1 if at == m else 0 for at in range(4))) for m in range(3)]
        self.assertIs(judge_table(history, (), state, 2, tuple(sorted(needed)) + ((2, state),)), True)
        for row in needed:
            left = tuple(sorted(other for other in needed if other != row))
            self.assertIs(judge_table(history, (), state, 2, left + ((2, state),)), False)
        self.assertIs(judge_table(history, (), state, 2, ((2, state),)), False)
        self.assertIs(judge_table(history, (), state, 1, ((1, state),)), True)

    def test_rows_that_are_not_needed(self):
        history = plain.chain(2)
        self.assertIs(judge_table(history, (), (1, 1), 1, ((0, (0, 0)), (1, (1, 1)))), True)
        self.assertIs(judge_table(history, (), (1, 1), 1, ((0, (0, 0)),)), False)
        self.assertIs(judge_table(history, (), (1, 1), 1, ((0, (1, 1)),)), False)

    def test_great_states(self):
        history = plain.chain(24)
        for q in (0, 30, 40):
            self.assertIs(judge_table(history, (), (20,) * 24, q, ((q, (20,) * 24),)), True)
        self.assertIs(judge_table(history, (), (20,) * 24, 200, ((200, (20,) * 24),)), False)
        self.assertIs(judge_table(history, (), (-1,) * 24, 0, ((0, (-1,) * 24),)), False)


if __name__ == "__main__":
    unittest.main()
