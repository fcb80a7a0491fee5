import unittest

from firstbreak.counts import counts_after, counts_weight, fewest_counts
from firstbreak.errors import BadState
from firstbreak.patches import fewest_patches, next_numbers

GREAT = 10 ** 12


def formula(n, q):
    """Whether q tests are enough for n patches (p3)."""
    return n * (q + 1) + (q - 1 if n % 2 else 0) <= 2 ** q


def least_q(a, b):
    """The q of p4."""
    q = 0
    while a * (q + 1) + b > 2 ** q:
        q += 1
    return q


def numbers_of(a, b):
    """The numbers x and y of p4, None if there are none."""
    if a + b < 2:
        return None
    if a >= 2 and b == 0:
        return -(-a // 2), 0
    if b < a - 1:
        return None
    if a % 2 == 0:
        return a // 2, b // 2
    return (a + 1) // 2, max(0, (b - least_q(a, b) + 1) // 2)


class Fewest(unittest.TestCase):
    def test_against_all_tests(self):
        for n in range(1, 13):
            self.assertEqual(fewest_patches(n), fewest_counts(n, 1))

    def compare(self, n):
        q = fewest_patches(n)
        self.assertTrue(formula(n, q), n)
        self.assertFalse(any(formula(n, less) for less in range(q)), n)

    def test_against_the_formula(self):
        for n in range(1, 3000):
            self.compare(n)
        for n in range(GREAT - 50, GREAT + 2):
            self.compare(n)

    def test_where_the_number_of_tests_changes(self):
        odd_ones = 0
        for q in range(5, 46):
            for odd in (0, 1):
                n = 2 ** q // (q + 1) + 3
                while n % 2 != odd or not formula(n, q):
                    n -= 1
                if n <= GREAT:
                    self.assertEqual((fewest_patches(n), fewest_patches(n + 2)), (q, q + 1))
                    odd_ones += odd
        self.assertGreater(odd_ones, 30)

    def test_odd_numbers_that_weigh_little_enough(self):
        # The weight alone would allow a test less.
        found = [n for n in range(1, 400, 2) if least_q(n, 0) < fewest_patches(n)]
        self.assertIn(3, found)
        self.assertIn(9, found)
        for n in found:
            self.assertFalse(formula(n, least_q(n, 0)))

    def test_known_numbers(self):
        self.assertEqual([fewest_patches(n) for n in range(1, 10)], [0, 3, 5, 5, 6, 6, 6, 6, 7])
        self.assertEqual(fewest_patches(10 ** 6), 25)


class Numbers(unittest.TestCase):
    def compare(self, a, b):
        right = numbers_of(a, b)
        if right is None:
            with self.assertRaises(BadState):
                next_numbers(a, b)
            return
        self.assertEqual(next_numbers(a, b), right)
        q = fewest_patches(a) if b == 0 else least_q(a, b)
        for broken in (True, False):
            after = counts_after((a, b), right, broken)
            self.assertLessEqual(counts_weight(after, q - 1), 2 ** (q - 1), (a, b))
            self.assertGreaterEqual(after[1], after[0] - 1, (a, b))

    def test_all_small_ones(self):
        for a in range(61):
            for b in range(61):
                self.compare(a, b)

    def test_great_ones(self):
        near = [GREAT - at for at in range(6)]
        for a in near + [0, 1, 2, 3, GREAT // 2, GREAT // 2 + 1]:
            for b in near + [0, 1, 2, 3, GREAT // 2 - 1, GREAT // 2, GREAT // 2 + 1]:
                self.compare(a, b)

    def test_going_on_settles_within_q_tests(self):
        known = {}

        def most(a, b):
            if a + b < 2:
                return 0
            if (a, b) not in known:
                taken = next_numbers(a, b)
                known[a, b] = 1 + max(most(*counts_after((a, b), taken, broken)) for broken in (True, False))
            return known[a, b]

        for a in range(61):
            for b in range(max(0, a - 1), 61):
                if (a, b) not in ((0, 0), (1, 0), (0, 1)):
                    self.assertLessEqual(most(a, b), least_q(a, b))
        for n in list(range(2, 200)) + [2000, 1999, 10 ** 6, 10 ** 6 + 1]:
            self.assertEqual(most(n, 0), fewest_patches(n))

    def test_beginning(self):
        for a in range(2, 50):
            self.assertEqual(next_numbers(a, 0), ((a + 1) // 2, 0))
        self.assertEqual(next_numbers(GREAT - 1, 0), (GREAT // 2, 0))

    def test_clipped(self):
        self.assertEqual(least_q(3, 2), 5)
        self.assertEqual(next_numbers(3, 2), (2, 0))
        self.assertEqual(next_numbers(1, 1), (1, 0))
        self.assertEqual(next_numbers(1, 3), (1, 0))
        self.assertEqual(next_numbers(1, 5), (1, 1))

    def test_refused(self):
        for a, b in ((0, 0), (1, 0), (0, 1), (3, 1), (4, 1), (4, 2), (10, 8), (60, 1), (60, 58), (GREAT, 1), (GREAT, GREAT - 2)):
            with self.assertRaises(BadState):
                next_numbers(a, b)
        for a, b in ((2, 0), (2, 1), (3, 2), (4, 3), (10, 9), (GREAT, GREAT - 1), (0, 2), (1, 1)):
            next_numbers(a, b)


if __name__ == "__main__":
    unittest.main()
