import unittest
from itertools import product

import plain
from firstbreak.judge import judge_table, judge_tree
from firstbreak.trees import best_tree, table_of

ODD_THINGS = (
    None, 0, 1, True, False, "", "nobody", "found", "ask", (), [], {}, (None,), ((),), b"", 1.5, ("nobody", ()),
    ["nobody"], ("Nobody",), ("found",), ["found", 0], ("found", 0, 0), ("Found", 0), (None, 0), ("found", None),
    ("found", "0"), ("found", (0,)), ("found", [0]), ("found", 0.0), ("found", -1), ("found", 9), ("ask",), ("ask", 0),
    ("ask", 0, ("nobody",)), (("nobody",),), ("nobody", "nobody"), ("ask", "nobody"), (("ask",), 0, (), ()),
    ("found", 0, ("found", 0), ("found", 0)), ("nobody", 0, ("found", 0), ("found", 1)),
)


def parts_of(tree):
    """Each part of a tree, with what gives the whole tree with something else in its place."""
    found = [(tree, lambda other: other)]
    if tree[0] == "ask":
        word, m, broken, works = tree
        for part, put in parts_of(broken):
            found.append((part, lambda other, put=put: (word, m, put(other), works)))
        for part, put in parts_of(works):
            found.append((part, lambda other, put=put: (word, m, broken, put(other))))
    return found


class Trees(unittest.TestCase):
    history = plain.history_of((), (0,), (0,), (1, 2))

    def games(self):
        for skipped in ((), (1,), (3,), (0, 2)):
            game = plain.Plain(self.history, skipped)
            for k in range(2):
                state = game.start(k)
                yield game, skipped, state, game.fewest(state), best_tree(self.history, skipped, state)

    def test_depth(self):
        for _, skipped, state, depth, tree in self.games():
            for q in range(depth + 4):
                self.assertIs(judge_tree(self.history, skipped, state, q, tree), q >= depth)
            self.assertIs(judge_tree(self.history, skipped, state, 200, tree), True)

    def test_spoilt_parts(self):
        for game, skipped, state, depth, tree in self.games():
            for part, put in parts_of(tree):
                for other in self.spoilt(game, part):
                    right = game.depth(state, put(other)) is not None
                    self.assertIs(judge_tree(self.history, skipped, state, 200, put(other)), right)
                for other in self.misshapen(part):
                    self.assertIs(judge_tree(self.history, skipped, state, 200, put(other)), False, put(other))

    def spoilt(self, game, part):
        """Parts of the right shape, most of which do not belong there."""
        yield ("nobody",)
        for at in range(-1, len(game.rows) + 1):
            yield ("found", at)
        if part[0] == "ask":
            _, m, broken, works = part
            yield ("ask", m, works, broken)
            yield broken
            yield works
            for other in range(-1, len(self.history[1]) + 1):
                yield ("ask", other, broken, works)

    def misshapen(self, part):
        for thing in ODD_THINGS:
            if thing != part:
                yield thing
        yield list(part)
        yield part + (part,)
        yield part[:-1]
        if part[0] == "found":
            yield ("found", str(part[1]))
            yield ("found", float(part[1]))
            if part[1] < 2:
                yield ("found", part[1] == 1)
        if part[0] == "ask":
            word, m, broken, works = part
            for other in (None, str(m), (m,), [m], float(m), -1, 4, 10 ** 30, True, False):
                yield (word, other, broken, works)
            for other in ("found", "nobody", "asks", "", None, 0, b"ask", ("ask",)):
                yield (other, m, broken, works)
            yield (word, m, list(broken), works)
            yield (word, m, broken, list(works))
            yield (word, m, broken, works, works)
            yield (word, m, broken)

    def test_skipped_makes(self):
        history = plain.chain(3)
        tree = ("ask", 1, ("found", 0), ("found", 1))
        self.assertIs(judge_tree(history, (0,), (0, 0), 1, tree), True)
        self.assertIs(judge_tree(history, (1,), (0, 0), 1, tree), False)
        self.assertIs(judge_tree(history, (1,), (0, 0), 1, ("ask", 0, ("found", 0), ("found", 1))), True)
        self.assertIs(judge_tree(history, (0,), (0, 0), 1, ("ask", 0, ("found", 0), ("found", 1))), False)

    def test_asks_anywhere(self):
        history = plain.chain(2)
        low = ("ask", 0, ("found", 0), ("found", 1))
        # Behind a works of the last make, which contradicts all, nobody is in.
        useless = ("ask", 1, low, ("nobody",))
        self.assertIs(judge_tree(history, (), (0, 0), 2, useless), True)
        self.assertIs(judge_tree(history, (), (0, 0), 1, useless), False)
        settled = ("ask", 0, ("found", 0), ("ask", 0, ("nobody",), ("found", 1)))
        self.assertIs(judge_tree(history, (), (0, 0), 2, settled), True)
        self.assertIs(judge_tree(history, (), (0, -1), 1, ("ask", 0, ("found", 0), ("nobody",))), True)
        self.assertIs(judge_tree(history, (), (-1, -1), 1, ("ask", 0, ("nobody",), ("nobody",))), True)
        self.assertIs(judge_tree(history, (), (-1, -1), 0, ("ask", 0, ("nobody",), ("nobody",))), False)
        tree = low
        for depth in range(2, 101):
            tree = ("ask", 1, tree, ("nobody",))
            self.assertIs(judge_tree(history, (), (0, 0), depth, tree), True)
            self.assertIs(judge_tree(history, (), (0, 0), depth - 1, tree), False)

    def test_ends(self):
        history = plain.chain(3)
        for state in product((-1, 0, 1), repeat=3):
            inside = [at for at, left in enumerate(state) if left >= 0]
            for at in range(-3, 4):
                self.assertIs(judge_tree(history, (), state, 0, ("found", at)), inside == [at])
            self.assertIs(judge_tree(history, (), state, 0, ("nobody",)), not inside)
        for state, right in (((0, -1, -1), ("found", False)), ((-1, 0, -1), ("found", True)), ((-1, 0, -1), ("found", 1.0))):
            self.assertIs(judge_tree(history, (), state, 0, right), False)

    def test_misshapen_trees_of_settled_states(self):
        for state, right in (((-1, -1), ("nobody",)), ((0, -1), ("found", 0)), ((-1, 0), ("found", 1))):
            for q in (0, 5):
                self.assertIs(judge_tree(plain.chain(2), (), state, q, right), True)
                for thing in self.misshapen(right):
                    self.assertIs(judge_tree(plain.chain(2), (), state, q, thing), False, thing)

    def test_true_in_the_place_of_a_make(self):
        history = plain.chain(3)
        first = (("found", 0), ("ask", 1, ("found", 1), ("found", 2)))
        second = (("ask", 0, ("found", 0), ("found", 1)), ("found", 2))
        for m, wrong, parts in ((0, False, first), (1, True, second)):
            self.assertIs(judge_tree(history, (), (0, 0, 0), 2, ("ask", m) + parts), True)
            self.assertIs(judge_tree(history, (), (0, 0, 0), 2, ("ask", wrong) + parts), False)

    def test_great_states(self):
        history = plain.chain(24)
        self.assertIs(judge_tree(history, (), (-1,) * 24, 0, ("nobody",)), True)
        self.assertIs(judge_tree(history, (), (20,) * 24, 200, ("nobody",)), False)
        self.assertIs(judge_tree(history, (), (-1,) * 23 + (20,), 0, ("found", 23)), True)


class Tables(unittest.TestCase):
    history = plain.fan(5)
    state = (0,) * 5

    def compare(self, game, state, q, rows):
        self.assertIs(
            judge_table(game.history, game.skipped, state, q, rows), game.is_table(state, q, rows), (state, q, rows),
        )

    def test_spoilt_tables(self):
        for history, skipped, k in (
            (plain.fan(5), (), 0), (plain.fan(4), (), 1), (plain.chain(4), (), 1), (plain.fan(5), (1,), 1),
            (plain.history_of((), (0,), (0,), (1, 2)), (), 2),
        ):
            game = plain.Plain(history, skipped)
            state = game.start(k)
            for q in range(game.fewest(state)):
                table = table_of(history, skipped, state, q)
                self.spoil(game, state, q, table)

    def spoil(self, game, state, q, table):
        self.compare(game, state, q, table)
        self.compare(game, state, q, table[::-1])
        for at in range(0, len(table), 1 + len(table) // 40):
            p, other = table[at]
            ahead, behind = table[:at], table[at + 1:]
            self.compare(game, state, q, ahead + behind)
            self.compare(game, state, q, ahead + (table[at],) + table[at:])
            self.compare(game, state, q, behind[:1] + ahead + table[at:at + 1] + behind[1:])
            for place, left in enumerate(other):
                for changed in (-1, left - 1, left + 1, 20):
                    if -1 <= changed <= 20:
                        row = (p, other[:place] + (changed,) + other[place + 1:])
                        self.compare(game, state, q, tuple(sorted(set(ahead + (row,) + behind))))
            for near in (p - 1, p + 1):
                if 0 <= near <= q:
                    self.compare(game, state, q, tuple(sorted(set(ahead + ((near, other),) + behind))))

    def test_misshapen_tables(self):
        table = table_of(self.history, (), self.state, 3)
        self.assertGreater(len(table), 2)
        self.assertIs(judge_table(self.history, (), self.state, 3, table), True)
        for thing in ODD_THINGS + (list(table), dict(table), table[0], (table,), table + (None,), (0,) + table):
            self.assertIs(judge_table(self.history, (), self.state, 3, thing), False, thing)

    def test_misshapen_rows(self):
        table = table_of(self.history, (), self.state, 3)
        for at, (p, other) in enumerate(table):
            for row in (
                None, 0, True, "", "ab", (), [p, other], (p,), (other,), (p, other, ()), (other, p), (p, list(other)),
                (p, None), (p, 0), (p, "00000"), (p, other[1:]), (p, other + (0,)), (p, ()), (p, (other,)), (None, other),
                (str(p), other), ((p,), other), ([p], other), (float(p), other), (p == 1, other), (p != 0, other),
                (p, (False,) + other[1:]), (p, (True,) + other[1:]), (p, (None,) + other[1:]), (p, ("0",) + other[1:]),
                (p, ([],) + other[1:]), (p, (0.0,) + other[1:]), (p, ((0,),) + other[1:]), (p, (-2,) + other[1:]),
                (p, (21,) + other[1:]), (p, other[:-1] + (-2,)), (p, other[:-1] + (21,)), (-1, other), (4, other),
                (10 ** 30, other), (-10 ** 30, other),
            ):
                spoilt = table[:at] + (row,) + table[at + 1:]
                self.assertIs(judge_table(self.history, (), self.state, 3, spoilt), False, spoilt)
                added = table[:at + 1] + (row,) + table[at + 1:]
                self.assertIs(judge_table(self.history, (), self.state, 3, added), False, added)

    def test_bounds_of_p(self):
        history = plain.chain(2)
        rows = tuple((p, (1, 1)) for p in range(-1, 4))
        for q in range(3):
            for low in range(4):
                for high in range(low + 1, 6):
                    right = low >= 1 and rows[high - 1][0] == q
                    self.assertIs(judge_table(history, (), (1, 1), q, rows[low:high]), right)

    def test_bounds_of_numbers(self):
        history = plain.chain(3)
        state = (0, 0, 0)
        for row, right in (
            ((0, (-1, 20, 20)), True), ((0, (20, 20, 20)), True), ((0, (-1, 20, 21)), False), ((0, (-2, 20, 20)), False),
            ((0, (-1, -1, 20)), False), ((0, (-1, -1, -1)), False), ((0, (-1, 0, 0)), True),
        ):
            table = tuple(sorted((row, (0, state))))
            self.assertIs(judge_table(history, (), state, 0, table), right, row)

    def test_rows_of_one_class(self):
        history = plain.chain(2)
        for row in ((0, (0, -1)), (0, (5, -1)), (1, (5, -1)), (1, (-1, -1)), (1, (-1, 20))):
            table = tuple(sorted((row, (1, (1, 1)))))
            self.assertIs(judge_table(history, (), (1, 1), 1, table), False)
            self.assertIs(judge_table(history, (), row[1], row[0], (row,)), False)

    def test_either_answer_is_enough(self):
        # The weight of four classes is just 2 ** 2, so the row with 2 needs rows with 1.
        history = plain.fan(4)
        state = (0, 0, 0, 0)
        needed = [(1, tuple(-1 if at == m else 0 for at in range(4))) for m in range(3)]
        self.assertIs(judge_table(history, (), state, 2, tuple(sorted(needed)) + ((2, state),)), True)
        for row in needed:
            left = tuple(sorted(other for other in needed if other != row))
            self.assertIs(judge_table(history, (), state, 2, left + ((2, state),)), False)
        self.assertIs(judge_table(history, (), state, 2, ((2, state),)), False)
        self.assertIs(judge_table(history, (), state, 1, ((1, state),)), True)

    def test_rows_that_are_not_needed(self):
        history = plain.chain(2)
        self.assertIs(judge_table(history, (), (1, 1), 1, ((0, (0, 0)), (1, (1, 1)))), True)
        self.assertIs(judge_table(history, (), (1, 1), 1, ((0, (0, 0)),)), False)
        self.assertIs(judge_table(history, (), (1, 1), 1, ((0, (1, 1)),)), False)

    def test_great_states(self):
        history = plain.chain(24)
        for q in (0, 30, 40):
            self.assertIs(judge_table(history, (), (20,) * 24, q, ((q, (20,) * 24),)), True)
        self.assertIs(judge_table(history, (), (20,) * 24, 200, ((200, (20,) * 24),)), False)
        self.assertIs(judge_table(history, (), (-1,) * 24, 0, ((0, (-1,) * 24),)), False)


if __name__ == "__main__":
    unittest.main()
