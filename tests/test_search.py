import unittest
from itertools import product

import plain
from firstbreak.errors import TooGreat
from firstbreak.search import fewest, fewest_from, useful
from firstbreak.weights import after, start


class Fewest(unittest.TestCase):
    def compare(self, history, skipped, most):
        game = plain.Plain(history, skipped)
        for state in product(range(-1, most + 1), repeat=len(game.rows)):
            self.assertEqual(fewest_from(history, skipped, state), game.fewest(state), (history, skipped, state))
            self.assertEqual(useful(history, skipped, state), game.useful(state), (history, skipped, state))

    def test_all_states_of_small_histories(self):
        for history in plain.SMALL:
            self.compare(history, (), 1)
            for skipped in plain.subsets(plain.indices(history)):
                self.compare(history, skipped, 0)
        for history in plain.SMALL[:5]:
            for skipped in plain.subsets(plain.indices(history)):
                self.compare(history, skipped, 2)

    def test_first_states(self):
        for history in plain.SAMPLES:
            for skipped in plain.subsets(plain.indices(history), 2):
                game = plain.Plain(history, skipped)
                for k in range(3 if len(game.rows) < 5 else 2 if len(game.rows) < 6 else 1):
                    right = game.fewest(game.start(k))
                    self.assertEqual(fewest(history, skipped, k), right)
                    self.assertEqual(fewest_from(history, skipped, start(history, skipped, k)), right)

    def test_states_of_unlike_numbers(self):
        for history in (plain.chain(4), plain.fan(4), plain.history_of((), (0,), (0,), (1, 2))):
            game = plain.Plain(history)
            for state in ((2, 0, 1, -1), (0, 3, 0, 0), (-1, 4, -1, 1), (2, -1, 2, 0), (3, -1, -1, -1), (-1, 1, 2, 0)):
                self.assertEqual(fewest_from(history, (), state), game.fewest(state))
                self.assertEqual(useful(history, (), state), game.useful(state))

    def test_settled_states(self):
        history = plain.chain(3)
        for state in ((-1, -1, -1), (0, -1, -1), (-1, 5, -1), (-1, -1, 20)):
            self.assertEqual((fewest_from(history, (), state), useful(history, (), state)), (0, ()))
        self.assertEqual(fewest(plain.chain(1), (), 20), 0)
        self.assertEqual(fewest(plain.chain(24), tuple(range(24)), 20), 0)

    def test_known_numbers(self):
        for n in range(1, 15):
            self.assertEqual(fewest(plain.chain(n), (), 0), (n - 1).bit_length())
        for k in range(21):
            self.assertEqual(fewest(plain.chain(2), (), k), 2 * k + 1)
        self.assertEqual(fewest(plain.fan(5), (), 0), 4)
        self.assertEqual(fewest(plain.fan(14), (12, 13), 0), fewest(plain.fan(14), (12,), 0))

    def test_every_useful_test_changes_both(self):
        for history in plain.SAMPLES:
            state = start(history, (), 0)
            for m in useful(history, (), state):
                for kind in ("broken", "works"):
                    self.assertNotEqual(after(history, (), state, (kind, m)), state)


class Limits(unittest.TestCase):
    def refused(self, history, skipped, state):
        with self.assertRaises(TooGreat):
            fewest_from(history, skipped, state)

    def test_at_the_limit(self):
        self.assertEqual(fewest_from(plain.chain(1), (), (19998,)), 0)
        self.refused(plain.chain(1), (), (19999,))

    def test_just_below_and_above(self):
        for n, k in ((14, 0), (9, 1), (7, 2), (6, 3), (5, 5), (4, 9), (3, 20)):
            self.assertGreaterEqual(fewest(plain.chain(n), (), k), 1)
            self.assertGreaterEqual(fewest_from(plain.chain(n), (), (k,) + (-1,) * (n - 2) + (0,)), 1)
            # The makes that are skipped do not count, classes do.
            longer = plain.chain(n + 3)
            self.assertEqual(fewest(longer, (1, 2, 3), k), fewest(plain.chain(n), (), k))
        for n, k in ((15, 0), (10, 1), (8, 2), (7, 3), (6, 4), (5, 6), (4, 10), (24, 20)):
            with self.assertRaises(TooGreat):
                fewest(plain.chain(n), (), k)
            self.refused(plain.chain(n), (), (k,) * n)
            self.refused(plain.chain(n), (), (-1,) * (n - 1) + (k,))

    def test_none_in(self):
        self.assertEqual(fewest_from(plain.chain(14), (), (-1,) * 14), 0)
        self.refused(plain.chain(15), (), (-1,) * 15)

    def test_useful_refuses_nothing(self):
        self.assertEqual(useful(plain.chain(24), (), (20,) * 24), tuple(range(23)))
        self.assertEqual(useful(plain.chain(24), (5,), (-1,) * 10 + (3,) * 3 + (-1,) * 10), (11, 12))


if __name__ == "__main__":
    unittest.main()
