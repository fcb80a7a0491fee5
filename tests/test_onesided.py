import unittest
from itertools import product

import plain
from firstbreak.errors import TooGreat
from firstbreak.onesided import after_one, can_be_one, fewest_one, fewest_one_from
from firstbreak.search import fewest_from
from firstbreak.weights import start


def plain_can_be(history, answers, k):
    """Those that can be it by the words of e1."""
    found = []
    for c in plain.indices(history):
        against = [kind for kind, m in answers if plain.plain_contradicts(history, c, (kind, m))]
        if "broken" not in against and len(against) <= k:
            found.append(c)
    return tuple(found)


class CanBe(unittest.TestCase):
    def test_few_answers(self):
        for history in plain.SMALL:
            told = plain.all_answers(history)
            for answers in [()] + list(product(told, repeat=1)) + list(product(told, repeat=2)):
                for k in range(4):
                    self.assertEqual(can_be_one(history, answers, k), plain_can_be(history, answers, k))

    def test_many_answers(self):
        for history in (plain.chain(5), plain.fan(6), plain.DIAMOND):
            told = plain.all_answers(history)
            rolls = plain.dice(len(told))
            for many in (3, 9, 30, 400):
                answers = tuple(told[next(rolls) % len(told)] for _ in range(many))
                works = tuple(answer for answer in answers if answer[0] == "works")
                for row in (answers, works, works + (("broken", len(history[1]) - 2),)):
                    for k in list(range(12)) + [many // 4, many // 2, many, 400]:
                        self.assertEqual(can_be_one(history, row, k), plain_can_be(history, row, k))

    def test_each_bound(self):
        history = plain.chain(3)
        for many in (0, 1, 2, 199, 399, 400):
            answers = (("works", 0),) * many
            for k in range(401):
                self.assertEqual(can_be_one(history, answers, k), (0, 1, 2) if many <= k else (1, 2))

    def test_one_broken_puts_out(self):
        history = plain.DIAMOND
        for k in (0, 1, 20, 400):
            self.assertEqual(can_be_one(history, (("broken", 1),), k), (0, 1))
            self.assertEqual(can_be_one(history, (("broken", 1), ("broken", 2)), k), (0,))
            self.assertEqual(can_be_one(history, (("works", 3), ("broken", 0)), k), (0,) if k else ())
        self.assertEqual(can_be_one(plain.fan(5), (("broken", 0), ("broken", 1)), 400), ())


class After(unittest.TestCase):
    def test_all_states(self):
        for history in plain.SMALL:
            for skipped in plain.subsets(plain.indices(history), 1):
                game = plain.PlainOne(history, skipped)
                for state in product((-1, 0, 1, 2), repeat=len(game.rows)):
                    for answer in plain.all_answers(history, skipped):
                        self.assertEqual(after_one(history, skipped, state, answer), game.after(state, answer))

    def test_any_numbers(self):
        history = plain.chain(4)
        self.assertEqual(after_one(history, (), (20, 5, 0, -1), ("broken", 1)), (20, 5, -1, -1))
        self.assertEqual(after_one(history, (), (20, 5, 0, -1), ("works", 2)), (19, 4, -1, -1))
        self.assertEqual(after_one(history, (), (-1, 7, 9, 20), ("broken", 0)), (-1, -1, -1, -1))
        self.assertEqual(after_one(history, (), (3, 7, 9, 20), ("broken", 3)), (3, 7, 9, 20))
        self.assertEqual(after_one(history, (), (3, 7, -1, 0), ("works", 3)), (2, 6, -1, -1))
        self.assertEqual(after_one(history, (1,), (3, 4, 5), ("broken", 0)), (3, -1, -1))


class Fewest(unittest.TestCase):
    def compare(self, history, skipped, state):
        game = plain.PlainOne(history, skipped)
        found = fewest_one_from(history, skipped, state)
        self.assertEqual(found, game.fewest(state), (history, skipped, state))
        # Between the game of all answers and the one without false answers (e3).
        self.assertLessEqual(found, fewest_from(history, skipped, state))
        certain = tuple(min(left, 0) for left in state)
        self.assertGreaterEqual(found, fewest_one_from(history, skipped, certain))
        self.assertEqual(fewest_one_from(history, skipped, certain), fewest_from(history, skipped, certain))

    def test_all_states_of_small_histories(self):
        for history in plain.SMALL:
            for skipped in plain.subsets(plain.indices(history), 4 if len(history[1]) < 4 else 1):
                many = len(plain.plain_classes(history, skipped))
                for state in product(range(-1, 3 if many < 4 else 2), repeat=many):
                    self.compare(history, skipped, state)

    def test_first_states(self):
        for history in plain.SAMPLES:
            for skipped in plain.subsets(plain.indices(history), 1):
                game = plain.PlainOne(history, skipped)
                for k in range(3 if len(game.rows) < 5 else 2 if len(game.rows) < 6 else 1):
                    right = game.fewest(game.start(k))
                    self.assertEqual(fewest_one(history, skipped, k), right)
                    self.assertEqual(fewest_one_from(history, skipped, start(history, skipped, k)), right)

    def test_states_of_unlike_numbers(self):
        for history in (plain.chain(4), plain.fan(4), plain.DIAMOND):
            for state in ((2, 0, 1, -1), (0, 3, 0, 0), (-1, 4, -1, 1), (2, -1, 2, 0), (3, -1, -1, -1), (-1, 1, 2, 0)):
                self.compare(history, (), state)

    def test_settled_states(self):
        history = plain.chain(3)
        for state in ((-1, -1, -1), (0, -1, -1), (-1, 5, -1), (-1, -1, 20)):
            self.assertEqual(fewest_one_from(history, (), state), 0)
        self.assertEqual(fewest_one(plain.chain(1), (), 20), 0)
        self.assertEqual(fewest_one(plain.chain(24), tuple(range(24)), 20), 0)

    def test_known_numbers(self):
        for k in range(21):
            self.assertEqual(fewest_one(plain.chain(2), (), k), k + 1)
            self.assertEqual(fewest_one_from(plain.chain(2), (), (k, 20 - k)), k + 1)
        for n in range(1, 15):
            self.assertEqual(fewest_one(plain.chain(n), (), 0), (n - 1).bit_length())


class Limits(unittest.TestCase):
    def refused(self, history, skipped, state):
        with self.assertRaises(TooGreat):
            fewest_one_from(history, skipped, state)

    def test_at_the_limit(self):
        self.assertEqual(fewest_one_from(plain.chain(1), (), (19998,)), 0)
        self.refused(plain.chain(1), (), (19999,))

    def test_just_below_and_above(self):
        for n, k in ((14, 0), (9, 1), (7, 2), (6, 3), (5, 5), (4, 9), (3, 20)):
            self.assertLessEqual((k + 2) ** n, 20000)
            self.assertGreaterEqual(fewest_one(plain.chain(n), (), k), 1)
            self.assertGreaterEqual(fewest_one_from(plain.chain(n), (), (k,) + (-1,) * (n - 2) + (0,)), 1)
            self.assertEqual(fewest_one_from(plain.chain(n), (), (k,) + (-1,) * (n - 1)), 0)
            # The makes that are skipped do not count, classes do.
            longer = plain.chain(n + 3)
            self.assertEqual(fewest_one(longer, (1, 2, 3), k), fewest_one(plain.chain(n), (), k))
        for n, k in ((15, 0), (10, 1), (8, 2), (7, 3), (6, 4), (5, 6), (4, 10), (24, 20)):
            with self.assertRaises(TooGreat):
                fewest_one(plain.chain(n), (), k)
            self.refused(plain.chain(n), (), (k,) * n)
            self.refused(plain.chain(n), (), (-1,) * (n - 1) + (k,))

    def test_none_in(self):
        self.assertEqual(fewest_one_from(plain.chain(14), (), (-1,) * 14), 0)
        self.refused(plain.chain(15), (), (-1,) * 15)


if __name__ == "__main__":
    unittest.main()
