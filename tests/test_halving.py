import unittest

import plain
from firstbreak.errors import BadState
from firstbreak.halving import even_most, even_test, even_tree, has_two, parts_by, two_bound
from firstbreak.judge import judge_tree
from firstbreak.trees import depth_of, followed

FOURS = [plain.fan(n) for n in (5, 6, 9, 13)] + [plain.mixed(n, 4, seed) for n in (7, 8, 11) for seed in range(4)]
THREES = [plain.mixed(n, 3, seed) for n in (5, 6, 8, 12) for seed in range(4)]
TWOS = [plain.mixed(n, 2, seed) for n in (2, 5, 6, 7, 8, 9, 12) for seed in range(4)]
SIDES = {}


def sides_of(history, left, m):
    """The parts of what is left, by the words of g1."""
    if history not in SIDES:
        SIDES[history] = [plain.walk(history, at) for at in plain.indices(history)]
    row = SIDES[history][m]
    return tuple(c for c in left if c in row), tuple(c for c in left if c not in row)


def plain_even(history, left):
    """The even test by the words of g2."""
    lesser = [min(map(len, sides_of(history, left, m))) for m in plain.indices(history)]
    return lesser.index(max(lesser))


def all_left(history):
    """All rows of candidates that can be left behind answers."""
    first = tuple(plain.indices(history))
    found, todo = {first}, [first]
    while todo:
        left = todo.pop()
        for m in plain.indices(history):
            for part in sides_of(history, left, m):
                if part and part not in found:
                    found.add(part)
                    todo.append(part)
    return found


def plain_most(history, left):
    if len(left) < 2:
        return 0
    return 1 + max(plain_most(history, part) for part in sides_of(history, left, plain_even(history, left)))


def plain_tree(history, left):
    if len(left) == 1:
        return ("found", left[0])
    m = plain_even(history, left)
    return ("ask", m) + tuple(plain_tree(history, part) for part in sides_of(history, left, m))


class Parts(unittest.TestCase):
    def compare(self, history, left):
        for m in plain.indices(history):
            self.assertEqual(parts_by(history, left, m), sides_of(history, left, m))
        if len(left) > 1:
            self.assertEqual(even_test(history, left), plain_even(history, left), (history, left))

    def test_any_rows(self):
        for history in plain.SAMPLES:
            for left in plain.subsets(plain.indices(history)):
                self.compare(history, left)

    def test_what_is_left_behind_answers(self):
        for history in THREES[:8] + FOURS[:2] + TWOS[:16]:
            for left in all_left(history):
                self.compare(history, left)

    def test_long_rows(self):
        for n, seed in ((20, 1), (24, 2), (24, 3)):
            history = plain.mixed(n, 4, seed)
            rolls = plain.dice(seed)
            for _ in range(60):
                self.compare(history, tuple(c for c in range(n) if next(rolls) % 3))

    def test_of_several_the_first(self):
        self.assertEqual(even_test(plain.chain(4), (0, 1, 2, 3)), 1)
        self.assertEqual(even_test(plain.chain(5), (0, 1, 2, 3, 4)), 1)
        self.assertEqual(even_test(plain.chain(6), (0, 5)), 0)
        self.assertEqual(even_test(plain.fan(5), (0, 1, 2, 3, 4)), 0)
        self.assertEqual(even_test(plain.fan(5), (2, 3)), 2)

    def test_too_few_candidates(self):
        for history in (plain.chain(1), plain.chain(3), plain.fan(5)):
            for left in [()] + [(c,) for c in plain.indices(history)]:
                with self.assertRaises(BadState):
                    even_test(history, left)


class Going(unittest.TestCase):
    def test_down_both_parts(self):
        for history in plain.SAMPLES + TWOS + THREES + FOURS:
            first = tuple(plain.indices(history))
            tree = even_tree(history)
            self.assertEqual(tree, plain_tree(history, first))
            self.assertEqual(even_most(history, first), plain_most(history, first))
            self.assertEqual(depth_of(tree), even_most(history, first))
            for c in first:
                self.assertEqual(followed(history, tree, c, ()), ("found", c))
            # Without skipped makes each candidate is a class of its own.
            self.assertIs(judge_tree(history, (), (0,) * len(first), depth_of(tree), tree), True)

    def test_rows_that_are_left(self):
        for history in plain.SAMPLES[-5:]:
            for left in plain.subsets(plain.indices(history)):
                self.assertEqual(even_most(history, left), plain_most(history, left))

    def test_of_one_make(self):
        self.assertEqual(even_most(plain.chain(1), (0,)), 0)
        self.assertEqual(even_tree(plain.chain(1)), ("found", 0))
        self.assertEqual([even_most(plain.chain(3), left) for left in ((), (0,), (2,), (0, 2))], [0, 0, 0, 1])

    def test_chains(self):
        for n in range(1, 25):
            self.assertEqual(even_most(plain.chain(n), tuple(range(n))), (n - 1).bit_length())
        tree = ("ask", 0, ("found", 0), ("ask", 1, ("found", 1), ("found", 2)))
        self.assertEqual(even_tree(plain.chain(3)), tree)

    def test_merges_of_four(self):
        low = ("ask", 2, ("found", 2), ("ask", 3, ("found", 3), ("found", 4)))
        tree = ("ask", 0, ("found", 0), ("ask", 1, ("found", 1), low))
        self.assertEqual(even_tree(plain.fan(5)), tree)
        self.assertEqual(even_most(plain.fan(5), (0, 1, 2, 3, 4)), 4)


class Two(unittest.TestCase):
    def test_has_two(self):
        for history in plain.SAMPLES + TWOS + THREES + FOURS:
            self.assertIs(has_two(history), max(len(parents) for _, parents in history[1]) <= 2)
        self.assertIs(has_two(plain.chain(1)), True)
        self.assertIs(has_two(plain.DIAMOND), True)
        self.assertIs(has_two(plain.history_of((), (), (), (0, 1, 2), (3,))), False)
        self.assertIs(has_two(plain.history_of((), (), (), (0, 1, 2))), False)

    def test_bound(self):
        f = [None, 0]
        for n in range(2, 1001):
            f.append(1 + max(f[1:n - (2 * n + 3) // 6 + 1]))
        self.assertEqual([two_bound(n) for n in range(1, 1001)], f[1:])

    def two_histories(self):
        for n in range(1, 7):
            yield from (history for history in plain.all_histories(n) if has_two(history))
        yield from TWOS

    def test_lesser_part(self):
        many = 0
        for history in self.two_histories():
            for left in all_left(history):
                if len(left) > 1:
                    parts = parts_by(history, left, even_test(history, left))
                    self.assertGreaterEqual(min(map(len, parts)), (2 * len(left) + 3) // 6, (history, left))
                    many += 1
        self.assertGreater(many, 5000)

    def test_lesser_part_of_long_histories(self):
        for n in (16, 20, 23, 24):
            for seed in range(6):
                history = plain.mixed(n, 2, seed)
                rolls = plain.dice(seed)
                for _ in range(10):
                    left = tuple(range(n))
                    while len(left) > 1:
                        parts = parts_by(history, left, even_test(history, left))
                        self.assertGreaterEqual(min(map(len, parts)), (2 * len(left) + 3) // 6)
                        roll = next(rolls)
                        other = parts_by(history, left, roll % n)
                        left = other[roll // n % 2] or parts[roll // n % 2]

    def test_even_testing_is_within_the_bound(self):
        for history in self.two_histories():
            n = len(history[1])
            self.assertLessEqual(even_most(history, tuple(range(n))), two_bound(n))
        for n in range(10, 25):
            for seed in range(6):
                self.assertLessEqual(even_most(plain.mixed(n, 2, seed), tuple(range(n))), two_bound(n))


if __name__ == "__main__":
    unittest.main()
