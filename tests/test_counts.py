import unittest
from itertools import product

import plain
from firstbreak.counts import counts_after, counts_weight, fewest_counts
from firstbreak.errors import TooGreat
from firstbreak.search import fewest


def all_tests(counts):
    return product(*(range(many + 1) for many in counts))


def moved(counts, taken, broken):
    """The counts behind an answer, each patch moved for itself (p1)."""
    found = [0] * len(counts)
    for often, (many, some) in enumerate(zip(counts, taken)):
        for patch in range(many):
            is_in = patch < some
            now = often + (is_in != broken)
            if now < len(counts):
                found[now] += 1
    return tuple(found)


class PlainCounts:
    """Counts that are settled within q tests, all tests tried out (p2)."""

    def __init__(self):
        self.known = {}

    def within(self, counts, q):
        if sum(counts) <= 1:
            return True
        if q < 1:
            return False
        if (counts, q) not in self.known:
            self.known[counts, q] = any(
                all(self.within(moved(counts, taken, broken), q - 1) for broken in (True, False))
                for taken in all_tests(counts)
            )
        return self.known[counts, q]

    def fewest(self, counts):
        q = 0
        while not self.within(counts, q):
            q += 1
        return q


SOME = [(many,) for many in range(5)] + list(product(range(4), repeat=2)) + list(product(range(3), repeat=3)) + [
    (4, 3, 2, 1), (0, 0, 5, 0), (0, 2, 0, 3), (1, 1, 1, 1, 1, 1),
]


class After(unittest.TestCase):
    def test_moved_one_by_one(self):
        for counts in SOME:
            for taken in all_tests(counts):
                for broken in (True, False):
                    self.assertEqual(counts_after(counts, taken, broken), moved(counts, taken, broken))

    def test_one_number(self):
        self.assertEqual(counts_after((7,), (3,), True), (3,))
        self.assertEqual(counts_after((7,), (3,), False), (4,))
        self.assertEqual(counts_after((7,), (0,), True), (0,))
        self.assertEqual(counts_after((0,), (0,), False), (0,))

    def test_those_contradicted_too_often_are_out(self):
        self.assertEqual(counts_after((0, 0, 5), (0, 0, 2), True), (0, 0, 2))
        self.assertEqual(counts_after((0, 0, 5), (0, 0, 2), False), (0, 0, 3))
        self.assertEqual(counts_after((4, 3), (1, 3), True), (1, 6))
        self.assertEqual(counts_after((4, 3), (1, 3), False), (3, 1))

    def test_great_numbers(self):
        many = 10 ** 12
        self.assertEqual(counts_after((many, many), (many // 2, 1), True), (many // 2, many // 2 + 1))
        counts = (many,) + (0,) * 20
        self.assertEqual(counts_after(counts, (1,) + (0,) * 20, False), (many - 1, 1) + (0,) * 19)


class Weight(unittest.TestCase):
    def test_by_the_sum(self):
        for counts in SOME:
            for q in range(0, 201, 1 if len(counts) < 3 else 7):
                right = sum(
                    many * sum(plain.pascal(q)[:len(counts) - often]) for often, many in enumerate(counts)
                )
                self.assertEqual(counts_weight(counts, q), right)

    def test_many_numbers(self):
        counts = tuple(10 ** 12 - at for at in range(21))
        for q in (0, 1, 19, 20, 21, 200):
            right = sum(many * sum(plain.pascal(q)[:21 - often]) for often, many in enumerate(counts))
            self.assertEqual(counts_weight(counts, q), right)

    def test_both_answers_add_up(self):
        for counts in SOME:
            for taken in all_tests(counts):
                both = [counts_after(counts, taken, broken) for broken in (True, False)]
                for q in (1, 2, 3, 9, 200):
                    self.assertEqual(sum(counts_weight(one, q - 1) for one in both), counts_weight(counts, q))


class Fewest(unittest.TestCase):
    def test_all_tests_tried_out(self):
        game = PlainCounts()
        for n in range(1, 25):
            for k in range(24 // n):
                self.assertEqual(fewest_counts(n, k), game.fewest((n,) + (0,) * k), (n, k))

    def test_known_numbers(self):
        for n in range(1, 25):
            self.assertEqual(fewest_counts(n, 0), (n - 1).bit_length())
        for k in range(12):
            self.assertEqual(fewest_counts(2, k), 2 * k + 1)
        for k in range(24):
            self.assertEqual(fewest_counts(1, k), 0)

    def test_at_most_those_of_histories(self):
        # A history allows only some of the sets of changes.
        for history in (plain.chain(4), plain.fan(4), plain.DIAMOND):
            for k in range(3):
                self.assertLessEqual(fewest_counts(4, k), fewest(history, (), k))

    def test_too_great(self):
        for n, k in ((25, 0), (13, 1), (9, 2), (7, 3), (5, 4), (5, 5), (4, 6), (3, 8), (2, 12), (1, 24), (1, 10 ** 6), (10 ** 9, 0)):
            with self.assertRaises(TooGreat):
                fewest_counts(n, k)
        for n, k in ((24, 0), (12, 1), (8, 2), (6, 3), (4, 5), (3, 7), (2, 11), (1, 23)):
            self.assertEqual(n * (k + 1), 24)
            self.assertGreaterEqual(fewest_counts(n, k), 0)


if __name__ == "__main__":
    unittest.main()
