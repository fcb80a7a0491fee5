import unittest
from itertools import product

import plain
from firstbreak.errors import TooGreat
from firstbreak.flaky import can_be_by_make, counts_of, fewest_by_make, held_back, settled
from firstbreak.search import fewest

RULES = ("two", "one")


def plain_settled(works, broken, k, rule):
    """As what a make is settled, by the words of o2."""
    is_broken = broken > k if rule == "two" else broken >= 1
    is_working = works > k
    return {(True, True): "both", (True, False): "broken", (False, True): "works", (False, False): ""}[is_broken, is_working]


def bounded(history, answers, k, rule, c):
    """Whether the answers that contradict a candidate are bounded as o1 tells."""
    against = [answer for answer in answers if plain.plain_contradicts(history, c, answer)]
    if rule == "one" and any(kind == "broken" for kind, _ in against):
        return False
    return all(sum(m == at for _, at in against) <= k for m in plain.indices(history))


def agrees(history, answers, k, rule, c):
    """Whether a candidate agrees with each settled make as o2 tells."""
    for m in plain.indices(history):
        works, broken = answers.count(("works", m)), answers.count(("broken", m))
        told = plain_settled(works, broken, k, rule)
        if told in ("broken", "both") and c not in plain.walk(history, m):
            return False
        if told in ("works", "both") and c in plain.walk(history, m):
            return False
    return True


class ByMake:
    """The game of o3, all tests and all answers bounded by make tried out."""

    def __init__(self, history, skipped, k, rule):
        self.history, self.k, self.rule = history, k, rule
        self.makes = [m for m in plain.indices(history) if m not in skipped]
        self.rows = plain.plain_classes(history, skipped)
        self.under = {m: {c for c in plain.indices(history) if c in plain.walk(history, m)} for m in self.makes}
        self.known = {}

    def classes_left(self, counts):
        """The classes whose candidates can be it, counts having the works and broken of each make."""
        left = []
        for row in self.rows:
            for m, (works, broken) in zip(self.makes, counts):
                is_broken = row[0] in self.under[m]
                if (works if is_broken else broken) > (0 if self.rule == "one" and not is_broken else self.k):
                    break
            else:
                left.append(row)
        return left

    def within(self, counts, q):
        if len(self.classes_left(counts)) <= 1:
            return True
        if q < 1:
            return False
        if (counts, q) not in self.known:
            self.known[counts, q] = any(
                all(self.within(self.one_more(counts, at, kind), q - 1) for kind in (0, 1))
                for at in range(len(counts))
            )
        return self.known[counts, q]

    def one_more(self, counts, at, kind):
        pair = (counts[at][0] + (kind == 0), counts[at][1] + (kind == 1))
        return counts[:at] + (pair,) + counts[at + 1:]

    def fewest(self):
        counts = ((0, 0),) * len(self.makes)
        q = 0
        while not self.within(counts, q):
            q += 1
        return q


class Settled(unittest.TestCase):
    def test_counts(self):
        answers = (("works", 0), ("broken", 1), ("works", 1), ("broken", 1), ("works", 2), ("works", 2))
        self.assertEqual([counts_of(answers, m) for m in range(4)], [(1, 0), (1, 2), (2, 0), (0, 0)])
        self.assertEqual(counts_of((), 0), (0, 0))
        self.assertEqual(counts_of((("broken", 5),) * 400, 5), (0, 400))

    def test_each_bound(self):
        for rule in RULES:
            for k in range(21):
                for works in (0, 1, k - 1, k, k + 1, k + 2, 2 * k + 1):
                    for broken in (0, 1, k - 1, k, k + 1, k + 2, 2 * k + 1):
                        answers = (("works", 3),) * works + (("broken", 4),) * 30 + (("broken", 3),) * broken
                        right = plain_settled(max(works, 0), max(broken, 0), k, rule)
                        self.assertEqual(settled(answers, 3, k, rule), right, (rule, k, works, broken))
                        self.assertEqual(settled(answers[::-1], 3, k, rule), right)

    def test_at_just_k_and_one_more(self):
        for k in range(21):
            works, broken = (("works", 0),), (("broken", 0),)
            for rule in RULES:
                self.assertEqual(settled((), 0, k, rule), "")
                self.assertEqual(settled(works * k, 0, k, rule), "")
                self.assertEqual(settled(works * (k + 1), 0, k, rule), "works")
                self.assertEqual(settled(works * (k + 1) + broken * (k + 1), 0, k, rule), "both")
            self.assertEqual(settled(broken * k, 0, k, "two"), "")
            self.assertEqual(settled(broken * (k + 1) + works * k, 0, k, "two"), "broken")
            self.assertEqual(settled(broken, 0, k, "one"), "broken")
            self.assertEqual(settled(works * k + broken, 0, k, "one"), "broken")
            self.assertEqual(settled(works * (k + 1) + broken, 0, k, "one"), "both")
            self.assertEqual(settled(works * (k + 1) + broken * k, 0, k, "two"), "works")


class CanBe(unittest.TestCase):
    def compare(self, history, answers, k):
        for rule in RULES:
            right = tuple(c for c in plain.indices(history) if bounded(history, answers, k, rule, c))
            self.assertEqual(can_be_by_make(history, answers, k, rule), right, (history, answers, k, rule))
            self.assertEqual(right, tuple(c for c in plain.indices(history) if agrees(history, answers, k, rule, c)))

    def test_few_answers(self):
        for history in plain.SMALL:
            told = plain.all_answers(history)
            for many in range(3):
                for answers in product(told, repeat=many):
                    for k in range(2):
                        self.compare(history, answers, k)

    def test_many_answers(self):
        for history in plain.SAMPLES[-5:] + [plain.mixed(24, 4, 1)]:
            told = plain.all_answers(history)
            for seed in range(12):
                rolls = plain.dice(seed)
                truth = next(rolls) % len(history[1])
                answers = []
                for _ in range((5, 20, 60, 400)[seed % 4]):
                    answer = told[next(rolls) % len(told)]
                    # Mostly true ones, or nobody would be left.
                    if not plain.plain_contradicts(history, truth, answer) or next(rolls) % 8 == 0:
                        answers.append(answer)
                for k in (0, 1, 2, 3, 5, 20):
                    self.compare(history, tuple(answers), k)

    def test_bounded_by_make(self):
        history = plain.chain(3)
        # Two false answers at most for all, but of each make at most one.
        answers = (("works", 0), ("works", 1))
        self.assertEqual(can_be_by_make(history, answers, 1, "two"), (0, 1, 2))
        self.assertEqual(can_be_by_make(history, answers + answers[:1], 1, "two"), (1, 2))
        self.assertEqual(can_be_by_make(history, answers + answers[1:], 1, "one"), (2,))
        self.assertEqual(can_be_by_make(history, (("broken", 0),), 20, "one"), (0,))
        self.assertEqual(can_be_by_make(history, (("broken", 0),) * 20, 20, "two"), (0, 1, 2))
        self.assertEqual(can_be_by_make(history, (("broken", 0),) * 21, 20, "two"), (0,))

    def test_settled_both_ways(self):
        for history in (plain.chain(1), plain.chain(3), plain.fan(5)):
            for m in plain.indices(history):
                for k in (0, 1, 20):
                    answers = (("works", m),) * (k + 1) + (("broken", m),) * (k + 1)
                    for rule in RULES:
                        self.assertEqual(can_be_by_make(history, answers, k, rule), ())


class Fewest(unittest.TestCase):
    def test_the_number(self):
        for history in plain.SAMPLES + [plain.chain(14), plain.fan(12)]:
            for skipped in plain.subsets(plain.indices(history), 1):
                least = fewest(history, skipped, 0)
                for k in (0, 1, 2, 7, 20):
                    self.assertEqual(fewest_by_make(history, skipped, k, "two"), (2 * k + 1) * least)
                    self.assertEqual(fewest_by_make(history, skipped, k, "one"), (k + 1) * least)

    def test_all_tests_tried_out(self):
        for history in plain.SMALL:
            n = len(history[1])
            for skipped in plain.subsets(plain.indices(history), 1 if n < 4 else 0):
                for rule in RULES:
                    for k in range((4, 4, 4, 3, 1)[n]):
                        right = ByMake(history, skipped, k, rule).fewest()
                        self.assertEqual(fewest_by_make(history, skipped, k, rule), right, (history, skipped, k, rule))
        for history in (plain.chain(4), plain.fan(4), plain.DIAMOND):
            self.assertEqual(fewest_by_make(history, (), 1, "one"), ByMake(history, (), 1, "one").fewest())

    def test_too_great(self):
        for rule in RULES:
            for k in (0, 20):
                self.assertEqual(fewest_by_make(plain.chain(14), (), k, rule), (2 * k + 1 if rule == "two" else k + 1) * 4)
                for n in (15, 24):
                    with self.assertRaises(TooGreat):
                        fewest_by_make(plain.chain(n), (), k, rule)
                self.assertEqual(fewest_by_make(plain.chain(15), (3,), k, rule), fewest_by_make(plain.chain(14), (), k, rule))


class HeldBack(unittest.TestCase):
    def test_each_number_of_answers(self):
        for k in range(21):
            for many in range(2 * k + 4):
                for kinds in (("works",), ("broken",), ("works", "broken"), ("broken", "broken", "works")):
                    answers = tuple((kinds[at % len(kinds)], 2) for at in range(many))
                    others = (("works", 1), ("broken", 0)) * 5
                    right = "" if many >= 2 * k else "broken" if many % 2 else "works"
                    self.assertEqual(held_back(others + answers, 2, k, "two"), right)
                    self.assertEqual(held_back(answers + others, 2, k, "one"), "works" if many < k else "")

    def test_fits_every_candidate(self):
        for history in plain.SAMPLES:
            for rule in RULES:
                for k in (0, 1, 2, 3, 8):
                    answers = ()
                    for m in plain.indices(history):
                        while kind := held_back(answers, m, k, rule):
                            answers += ((kind, m),)
                            self.assertEqual(can_be_by_make(history, answers, k, rule), tuple(plain.indices(history)))
                    self.assertEqual(len(answers), (2 * k if rule == "two" else k) * len(history[1]))

    def test_the_answer_behind_settles(self):
        for k in range(21):
            for rule in RULES:
                answers = ()
                while kind := held_back(answers, 0, k, rule):
                    answers += ((kind, 0),)
                self.assertEqual(settled(answers, 0, k, rule), "")
                for kind in ("works", "broken"):
                    self.assertEqual(settled(answers + ((kind, 0),), 0, k, rule), kind)


if __name__ == "__main__":
    unittest.main()
