import unittest
from itertools import product

import plain
from firstbreak.classes import classes
from firstbreak.weights import after, choices, start, weight, weight_bound


def states(many, most):
    return product(range(-1, most + 1), repeat=many)


class States(unittest.TestCase):
    def test_start(self):
        for history in plain.SAMPLES:
            for skipped in plain.subsets(plain.indices(history)):
                for k in (0, 1, 20):
                    right = (k,) * len(plain.plain_classes(history, skipped))
                    self.assertEqual(start(history, skipped, k), right)

    def test_after(self):
        for history in plain.SMALL:
            for skipped in plain.subsets(plain.indices(history)):
                game = plain.Plain(history, skipped)
                for state in states(len(game.rows), 1):
                    for answer in plain.all_answers(history, skipped):
                        self.assertEqual(after(history, skipped, state, answer), game.after(state, answer))

    def test_after_in_great_histories(self):
        for history in (plain.chain(24), plain.fan(24)):
            game = plain.Plain(history)
            for state in ((20,) * 24, tuple(range(-1, 21)) + (-1, 0), (-1,) * 24):
                for answer in plain.all_answers(history):
                    self.assertEqual(after(history, (), state, answer), game.after(state, answer))

    def test_what_a_number_means(self):
        """The number of a class is k less the answers that contradict it, -1 if they are more than k."""
        history = plain.history_of((), (0,), (0,), (1, 2))
        answers = (("works", 0), ("broken", 1), ("broken", 2), ("works", 2), ("broken", 1))
        for k in range(4):
            state = start(history, (), k)
            for at, answer in enumerate(answers):
                state = after(history, (), state, answer)
                counts = [
                    sum(plain.plain_contradicts(history, c, one) for one in answers[:at + 1]) for c in range(4)
                ]
                self.assertEqual(state, tuple(max(k - many, -1) for many in counts))

    def test_by_hand(self):
        history = plain.chain(3)
        self.assertEqual(after(history, (), (1, 0, -1), ("works", 1)), (0, -1, -1))
        self.assertEqual(after(history, (), (1, 0, 0), ("broken", 0)), (1, -1, -1))
        self.assertEqual(after(history, (), (1, 0, 2), ("works", 2)), (0, -1, 1))


class Weights(unittest.TestCase):
    def test_choices(self):
        for q in range(201):
            for most in range(-1, 21):
                self.assertEqual(choices(q, most), sum(plain.pascal(q)[:most + 1]))

    def test_weight(self):
        for q in range(201):
            for state in ((-1,), (0,), (3, -1, 0, 20), (1, 1, 1), (20,) * 24, (-1, -1)):
                right = sum(sum(plain.pascal(q)[:left + 1]) for left in state)
                self.assertEqual(weight(state, q), right)

    def test_bound(self):
        for state in list(states(3, 4)) + [(20,) * 24, (20, -1), (-1,) * 24, (0,) * 24, (0,) * 16, (0,) * 17]:
            least = 0
            while sum(sum(plain.pascal(least)[:left + 1]) for left in state) > 2 ** least:
                least += 1
            self.assertEqual(weight_bound(state), least)
        self.assertEqual([weight_bound(state) for state in ((-1, -1), (5,), (0, 0), (1, 1))], [0, 0, 1, 3])

    def test_both_answers_share_the_weight(self):
        for history in plain.SAMPLES:
            for skipped in plain.subsets(plain.indices(history), 2):
                many = len(classes(history, skipped))
                for state in ((0,) * many, (2,) * many, tuple(at % 4 - 1 for at in range(many)), (-1,) * many):
                    for m in plain.indices(history):
                        if m not in skipped:
                            self.shared(history, skipped, state, m)

    def shared(self, history, skipped, state, m):
        broken = after(history, skipped, state, ("broken", m))
        works = after(history, skipped, state, ("works", m))
        for q in (1, 2, 5, 9):
            self.assertEqual(weight(broken, q - 1) + weight(works, q - 1), weight(state, q))

    def test_too_heavy_is_not_settled(self):
        for history in plain.SMALL:
            game = plain.Plain(history)
            for state in states(len(game.rows), 1):
                self.assertLessEqual(weight_bound(state), game.fewest(state))


if __name__ == "__main__":
    unittest.main()
