import unittest
from itertools import combinations, product

import plain
from firstbreak.classes import classes
from firstbreak.errors import TooGreat
from firstbreak.rounds import chain_rounds, fewest_rounds, is_chain, patterns


def plain_patterns(history, left, makes):
    """All rows of answers, each with the candidates that give it, if there are any."""
    under = [plain.walk(history, m) for m in makes]
    found = []
    for pattern in product((False, True), repeat=len(makes)):
        part = tuple(c for c in left if all((c in row) == broken for row, broken in zip(under, pattern)))
        if part:
            found.append((pattern, part))
    return tuple(found)


class PlainRounds:
    """Plans tried out, by the words of b2 and b4."""

    def __init__(self, history, skipped, w):
        self.history, self.skipped, self.w = history, skipped, w
        self.rows = plain.plain_classes(history, skipped)
        makes = [m for m in plain.indices(history) if m not in skipped]
        self.rounds = [row for many in range(1, w + 1) for row in combinations(makes, many)]
        self.known = {}

    def all(self):
        return tuple(plain.indices(self.history))

    def within(self, left, r):
        """Whether some plan holds for candidates left and r rounds."""
        if any(set(left) <= set(row) for row in self.rows):
            return True
        if r == 0:
            return False
        if (left, r) not in self.known:
            self.known[left, r] = any(
                all(self.within(part, r - 1) for _, part in plain_patterns(self.history, left, makes))
                for makes in self.rounds
            )
        return self.known[left, r]

    def fewest(self):
        r = 0
        while not self.within(self.all(), r):
            r += 1
        return r

    def holds(self, left, r, plan):
        """Whether a plan of the right shape holds for candidates left and r rounds."""
        if plan[0] == "found":
            return 0 <= plan[1] < len(self.rows) and set(left) <= set(self.rows[plan[1]])
        _, makes, rows = plan
        right = plain_patterns(self.history, left, makes) if makes in self.rounds else None
        if r == 0 or right is None or [row[0] for row in rows] != [pattern for pattern, _ in right]:
            return False
        return all(self.holds(part, r - 1, row[1]) for (_, part), row in zip(right, rows))


def games():
    """Small histories, with and without skipped makes, and each w."""
    for history in plain.SMALL:
        most = len(history[1]) if len(history[1]) < 4 else 1
        for skipped in plain.subsets(plain.indices(history), most):
            for w in (1, 2, 3):
                yield PlainRounds(history, skipped, w)
    for history in plain.SAMPLES[-5:]:
        for skipped in ((), (0,), (1, 2), tuple(plain.indices(history))[1:], tuple(plain.indices(history))):
            for w in (1, 2, 3):
                yield PlainRounds(history, skipped, w)


class Patterns(unittest.TestCase):
    def compare(self, history, left, makes):
        found = patterns(history, left, makes)
        self.assertEqual(found, plain_patterns(history, left, makes))
        self.assertEqual(sum(len(row) for _, row in found), len(left))
        for pattern, _ in found:
            self.assertTrue(all(type(one) is bool for one in pattern))

    def test_all_rows_and_rounds(self):
        for history in plain.SMALL[::3] + plain.SAMPLES[-5:-1]:
            for makes in plain.subsets(plain.indices(history), 3):
                for left in plain.subsets(plain.indices(history)):
                    self.compare(history, left, makes)

    def test_great_histories(self):
        for history in (plain.chain(24), plain.fan(24), plain.mixed(24, 4, 1), plain.mixed(24, 2, 5)):
            for makes in plain.subsets(plain.indices(history), 3)[::37]:
                for step in (1, 2, 5):
                    self.compare(history, tuple(plain.indices(history))[::step], makes)

    def test_by_hand(self):
        right = (((False, False), (3,)), ((False, True), (2,)), ((True, True), (0, 1)))
        self.assertEqual(patterns(plain.chain(4), (0, 1, 2, 3), (1, 2)), right)
        right = (((False, True), (2, 3)), ((True, True), (0, 1)))
        self.assertEqual(patterns(plain.chain(4), (0, 1, 2, 3), (1, 3)), right)
        self.assertEqual(patterns(plain.chain(4), (0, 3), (1,)), (((False,), (3,)), ((True,), (0,))))

    def test_none_left_and_no_makes(self):
        for history in plain.SAMPLES[-5:]:
            for makes in plain.subsets(plain.indices(history), 3):
                self.assertEqual(patterns(history, (), makes), ())
            for left in plain.subsets(plain.indices(history))[1:]:
                self.assertEqual(patterns(history, left, ()), (((), left),))
            self.assertEqual(patterns(history, (), ()), ())


class Fewest(unittest.TestCase):
    def test_plans_tried_out(self):
        for game in games():
            right = game.fewest()
            self.assertEqual(fewest_rounds(game.history, game.skipped, game.w), right, (game.history, game.skipped, game.w))

    def test_one_class(self):
        for w in (1, 2, 3):
            self.assertEqual(fewest_rounds(plain.chain(1), (), w), 0)
            self.assertEqual(fewest_rounds(plain.chain(1), (0,), w), 0)
            self.assertEqual(fewest_rounds(plain.chain(24), tuple(range(24)), w), 0)
            self.assertEqual(fewest_rounds(plain.chain(24), tuple(range(23)), w), 0)

    def test_fans(self):
        # Of makes without parents each round clears at most w, and that of the last make behind them tells nothing.
        for n, right in ((4, (3, 2, 1)), (5, (4, 2, 2)), (7, (5, 3, 2))):
            self.assertEqual(tuple(fewest_rounds(plain.fan(n), (), w) for w in (1, 2, 3)), right)

    def test_chains(self):
        for n in range(1, 11):
            for w in (1, 2, 3):
                self.assertEqual(fewest_rounds(plain.chain(n), (), w), chain_rounds(n, w))

    def test_too_great(self):
        for w in (1, 2, 3):
            for history in (plain.chain(10), plain.fan(10), plain.mixed(10, 3, 1)):
                self.assertGreater(fewest_rounds(history, (), w), 1)
            for n in (11, 12, 24):
                for history in (plain.chain(n), plain.fan(n)):
                    with self.assertRaises(TooGreat):
                        fewest_rounds(history, (), w)
            # The classes count, not the makes.
            self.assertEqual(fewest_rounds(plain.chain(11), (3,), w), chain_rounds(10, w))
            self.assertEqual(fewest_rounds(plain.chain(24), tuple(range(2, 16)), w), chain_rounds(10, w))
            with self.assertRaises(TooGreat):
                fewest_rounds(plain.chain(24), tuple(range(2, 15)), w)
        for seed in range(30):
            history = plain.mixed(14, 3, seed)
            for skipped in ((0, 2, 4, 6), (1, 2, 3, 12), (3, 5, 8, 13), (0, 1, 2, 3, 4)):
                if len(classes(history, skipped)) > 10:
                    with self.assertRaises(TooGreat):
                        fewest_rounds(history, skipped, 3)
                else:
                    self.assertGreater(fewest_rounds(history, skipped, 3), 0)

    def test_of_no_others(self):
        history = plain.chain(24)
        self.assertEqual(len(patterns(history, tuple(range(24)), (3, 4, 9))), 4)
        self.assertIs(is_chain(history), True)
        self.assertEqual(chain_rounds(24, 3), 3)


class Chains(unittest.TestCase):
    def test_is_chain(self):
        for n in range(1, 25):
            self.assertIs(is_chain(plain.chain(n)), True)
        for history in plain.SMALL:
            self.assertIs(is_chain(history), history == plain.chain(len(history[1])))
        for rows in (
            ((), (), (0, 1)), ((), (0,), (0, 1)), ((), (0,), (0,), (1, 2)), ((), (), (1,), (0, 2)), ((), (), (0,), (1, 2)),
            ((), (0,), (1,), (2,), (1, 3)), ((), (0,), (1,), (0,), (2, 3)),
        ):
            self.assertIs(is_chain(plain.history_of(*rows)), False)
        for history in (plain.fan(3), plain.fan(24), plain.mixed(24, 3, 2)):
            self.assertIs(is_chain(history), False)
        names = ("history", (("zz", ()), ("c", (0,)), ("a", (1,))))
        self.assertIs(is_chain(names), True)

    def plain_rounds(self, n, w):
        r = 0
        while (w + 1) ** r < n:
            r += 1
        return r

    def test_chain_rounds(self):
        for n in range(1, 400):
            for w in range(1, 30):
                self.assertEqual(chain_rounds(n, w), self.plain_rounds(n, w))
        for n in (10 ** 9, 10 ** 9 - 1, 10 ** 8, 123456789, 2 ** 29, 2 ** 29 + 1):
            for w in range(1, 1001):
                self.assertEqual(chain_rounds(n, w), self.plain_rounds(n, w))

    def test_at_just_as_many(self):
        for w in (1, 2, 3, 9, 10, 31, 99, 100, 998, 999, 1000):
            r = 0
            while (w + 1) ** r < 10 ** 9:
                self.assertEqual(chain_rounds((w + 1) ** r, w), r)
                self.assertEqual(chain_rounds((w + 1) ** r + 1, w), r + 1)
                r += 1
        self.assertEqual((chain_rounds(1, 1), chain_rounds(2, 1), chain_rounds(10 ** 9, 1), chain_rounds(10 ** 9, 999)), (0, 1, 30, 3))
        self.assertEqual(chain_rounds(10 ** 9, 998), 4)


if __name__ == "__main__":
    unittest.main()
