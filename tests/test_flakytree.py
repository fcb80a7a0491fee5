import unittest
from itertools import permutations, product

import plain
from firstbreak.flakytree import next_make, run, still_needed, told_class
from firstbreak.flaky import fewest_by_make
from firstbreak.trees import best_tree, depth_of
from test_flaky import RULES, plain_settled


def bound(k, rule):
    return 2 * k + 1 if rule == "two" else k + 1


def counted(answers, m):
    return answers.count(("works", m)), answers.count(("broken", m))


def end_of(tree, answers, k, rule):
    """The ask of a make that is not settled, or the end, to which the settled makes lead."""
    if tree[0] != "ask":
        return tree
    told = plain_settled(*counted(answers, tree[1]), k, rule)
    if told == "":
        return tree
    return end_of(tree[3] if told == "works" else tree[2], answers, k, rule)


def plain_needed(tree, answers, k, rule):
    """The number of o5 by its words."""
    if tree[0] != "ask":
        return 0
    works, broken = counted(answers, tree[1])
    branches = [plain_needed(part, answers, k, rule) for part in tree[2:]]
    told = plain_settled(works, broken, k, rule)
    if told:
        return branches[told == "works"]
    return (2 * k + 1 - works - broken if rule == "two" else k + 1 - works) + max(branches)


def any_tree(rolls, makes, depth):
    """A tree of any asks, found and nobody."""
    roll = next(rolls)
    if depth == 0 or roll % 7 == 0:
        return ("nobody",) if roll % 3 == 0 else ("found", roll // 7 % 5)
    return ("ask", roll // 7 % makes, any_tree(rolls, makes, depth - 1), any_tree(rolls, makes, depth - 1))


ANY = [any_tree(plain.dice(seed), makes, depth) for seed, (makes, depth) in enumerate(product((1, 2, 4), (1, 2, 3, 5)))]
ENDS = [("found", 0), ("found", 3), ("nobody",)]


def best_trees():
    """Best trees without false answers, each with its history and skipped makes."""
    for history in plain.SAMPLES:
        for skipped in plain.subsets(plain.indices(history), 1):
            many = len(plain.plain_classes(history, skipped))
            yield history, skipped, best_tree(history, skipped, (0,) * many)


class Along(unittest.TestCase):
    def compare(self, tree, answers, k):
        for rule in RULES:
            end = end_of(tree, answers, k, rule)
            self.assertEqual(next_make(tree, answers, k, rule), end[1] if end[0] == "ask" else -1)
            right = -1 if end[0] == "ask" else end[1] if end[0] == "found" else -2
            self.assertEqual(told_class(tree, answers, k, rule), right)
            self.assertEqual(still_needed(tree, answers, k, rule), plain_needed(tree, answers, k, rule))

    def test_no_answers(self):
        for _, _, tree in best_trees():
            for k in (0, 1, 20):
                self.compare(tree, (), k)
                for rule in RULES:
                    self.assertEqual(still_needed(tree, (), k, rule), bound(k, rule) * depth_of(tree))

    def test_few_answers(self):
        told = [(kind, m) for m in range(3) for kind in ("broken", "works")]
        for tree in ANY + ENDS + [best_tree(plain.chain(4), (), (0,) * 4), best_tree(plain.fan(4), (), (0,) * 4)]:
            for many in range(4):
                for answers in product(told, repeat=many):
                    for k in range(2):
                        self.compare(tree, answers, k)

    def test_many_answers(self):
        trees = ANY + [tree for _, _, tree in best_trees()][::25] + [best_tree(plain.chain(12), (), (0,) * 12)]
        for at, tree in enumerate(trees):
            rolls = plain.dice(at)
            for many in (5, 10, 20, 60, 400):
                answers = tuple((("broken", "works")[next(rolls) % 2], next(rolls) % 6) for _ in range(many))
                for k in (0, 1, 2, 5, 20):
                    self.compare(tree, answers, k)
                    self.compare(tree, answers[::-1], k)

    def test_in_any_order(self):
        tree = best_tree(plain.chain(4), (), (0,) * 4)
        answers = (("works", 0), ("broken", 2), ("works", 1), ("works", 1), ("broken", 2))
        for rule in RULES:
            for row in permutations(answers):
                self.assertEqual([told_class(tree, row, k, rule) for k in (0, 1)], [2, 2])
                self.assertEqual(still_needed(tree, row, 1, rule), 0)

    def test_by_hand(self):
        tree = ("ask", 0, ("found", 0), ("ask", 1, ("found", 1), ("nobody",)))
        for answers, k, rule, right in (
            ((), 0, "two", (0, -1, 2)), ((), 2, "two", (0, -1, 10)), ((), 2, "one", (0, -1, 6)),
            ((("works", 0),), 0, "two", (1, -1, 1)), ((("works", 0),), 1, "two", (0, -1, 5)),
            ((("works", 0), ("broken", 0)), 1, "two", (0, -1, 4)), ((("works", 0),), 1, "one", (0, -1, 3)),
            ((("broken", 0),), 1, "one", (-1, 0, 0)), ((("broken", 0),), 1, "two", (0, -1, 5)),
            ((("broken", 0),) * 2, 1, "two", (-1, 0, 0)), ((("works", 0),) * 2, 1, "two", (1, -1, 3)),
            ((("works", 0), ("works", 1)), 0, "one", (-1, -2, 0)), ((("works", 1),), 0, "two", (0, -1, 1)),
            ((("works", 2), ("broken", 3)), 0, "two", (0, -1, 2)), ((("works", 0), ("broken", 0)), 0, "two", (-1, 0, 0)),
        ):
            found = next_make(tree, answers, k, rule), told_class(tree, answers, k, rule), still_needed(tree, answers, k, rule)
            self.assertEqual(found, right, (answers, k, rule))

    def test_a_make_again(self):
        # Each test counts for itself by the answers that are there, so the second one of make 0 counts, too.
        low = ("ask", 0, ("found", 1), ("nobody",))
        tree = ("ask", 0, low, ("found", 2))
        self.assertEqual(still_needed(tree, (), 1, "two"), 6)
        self.assertEqual(still_needed(tree, (("broken", 0),), 1, "two"), 4)
        self.assertEqual(still_needed(tree, (("broken", 0),) * 2, 1, "two"), 0)
        self.assertEqual(told_class(tree, (("broken", 0),) * 2, 1, "two"), 1)
        self.assertEqual(still_needed(tree, (("works", 0),), 1, "one"), 2)

    def test_settled_both_ways(self):
        tree = ("ask", 0, ("ask", 1, ("found", 0), ("nobody",)), ("found", 1))
        for k in (0, 1, 3):
            for rule in RULES:
                both = (("works", 0),) * (k + 1) + (("broken", 0),) * (k + 1)
                self.assertEqual(next_make(tree, both, k, rule), 1)
                self.assertEqual(still_needed(tree, both, k, rule), bound(k, rule))
                both += (("broken", 1),) * (k + 1) + (("works", 1),) * (k + 1)
                self.assertEqual((next_make(tree, both, k, rule), told_class(tree, both, k, rule)), (-1, 0))

    def test_an_end_alone(self):
        for end, right in ((("found", 0), 0), (("found", 23), 23), (("nobody",), -2)):
            for answers in ((), (("works", 0), ("broken", 0))):
                for rule in RULES:
                    self.assertEqual(next_make(end, answers, 1, rule), -1)
                    self.assertEqual(told_class(end, answers, 1, rule), right)
                    self.assertEqual(still_needed(end, answers, 1, rule), 0)
                    self.assertEqual(run(end, (True,), (1, 1), 1, rule), ())

    def test_a_hundred_asks(self):
        tree = ("nobody",)
        for at in range(100):
            tree = ("ask", at % 24, tree, ("found", at)) if at % 2 else ("ask", at % 24, ("found", at), tree)
        for k in (0, 20):
            self.compare(tree, (), k)
            for rule in RULES:
                self.assertEqual(still_needed(tree, (), k, rule), 100 * bound(k, rule))
        self.compare(tree, tuple(("works", m) for m in range(24)) * 2, 1)


NOISES = [(), (0,) * 9, (1,) * 400, (1, 0) * 200, (0, 1, 1) * 130, (1,), (0, 0, 1), (2, -1, 1, 3, 1, 10 ** 9, 1, 0, 1), (-1,) * 50]


class Run(unittest.TestCase):
    def check(self, tree, truth, noise, k, rule):
        """Each answer by the words of the interface."""
        answers = run(tree, truth, noise, k, rule)
        false = {}
        for at, (kind, m) in enumerate(answers):
            self.assertEqual(next_make(tree, answers[:at], k, rule), m)
            wanted = at < len(noise) and noise[at] == 1
            can_be_false = false.get(m, 0) < k and (rule == "two" or truth[m])
            is_false = (kind == "broken") != truth[m]
            self.assertEqual(is_false, wanted and can_be_false, (tree, truth, noise, k, rule, at))
            false[m] = false.get(m, 0) + is_false
            self.assertGreaterEqual(still_needed(tree, answers[:at], k, rule), len(answers) - at)
            if is_false and rule == "one":
                self.assertEqual((kind, truth[m]), ("works", True))
        self.assertTrue(all(many <= k for many in false.values()))
        self.assertEqual(next_make(tree, answers, k, rule), -1)
        return answers

    def test_tells_the_class_of_the_truth(self):
        for history, skipped, tree in best_trees():
            rows = plain.plain_classes(history, skipped)
            for number, row in enumerate(rows):
                for c in row:
                    truth = tuple(c in plain.walk(history, m) for m in plain.indices(history))
                    for k in (0, 1, 2):
                        for rule in RULES:
                            for noise in NOISES[:6]:
                                answers = run(tree, truth, noise, k, rule)
                                self.assertEqual(told_class(tree, answers, k, rule), number)
                                self.assertLessEqual(len(answers), bound(k, rule) * depth_of(tree))

    def test_each_answer(self):
        for history in (plain.chain(1), plain.chain(3), plain.fan(5), plain.DIAMOND, plain.SAMPLES[-1]):
            tree = best_tree(history, (), (0,) * len(history[1]))
            for c in plain.indices(history):
                truth = tuple(c in plain.walk(history, m) for m in plain.indices(history))
                for k in (0, 1, 2, 5, 20):
                    for rule in RULES:
                        for noise in NOISES:
                            answers = self.check(tree, truth, noise, k, rule)
                            self.assertEqual(told_class(tree, answers, k, rule), c)
                            self.assertLessEqual(len(answers), fewest_by_make(history, (), k, rule))

    def test_all_noise_is_as_many_as_can_be(self):
        for k in range(21):
            truth = (True, True)
            tree = ("ask", 0, ("found", 0), ("found", 1))
            self.assertEqual(run(tree, truth, (1,) * 41, k, "two"), (("works", 0),) * k + (("broken", 0),) * (k + 1))
            self.assertEqual(run(tree, (False, True), (1,) * 41, k, "two"), (("broken", 0),) * k + (("works", 0),) * (k + 1))
            self.assertEqual(run(tree, truth, (1,) * 41, k, "one"), (("works", 0),) * k + (("broken", 0),))
            self.assertEqual(run(tree, (False, True), (1,) * 41, k, "one"), (("works", 0),) * (k + 1))
            # Behind the last number of the noise all answers are true.
            for many in range(k + 1):
                right = (("works", 0),) * many + (("broken", 0),) * (k + 1)
                self.assertEqual(run(tree, truth, (1,) * many, k, "two"), right)

    def test_noise_counts_all_tests(self):
        tree = ("ask", 0, ("found", 0), ("ask", 1, ("found", 1), ("found", 2)))
        truth = (False, True, True)
        self.assertEqual(
            run(tree, truth, (0, 1, 0, 1), 1, "two"),
            (("works", 0), ("broken", 0), ("works", 0), ("works", 1), ("broken", 1), ("broken", 1)),
        )
        # The second number wants what one-sided cannot be, and is used up all the same.
        self.assertEqual(run(tree, truth, (0, 1, 1), 1, "one"), (("works", 0), ("works", 0), ("works", 1), ("broken", 1)))

    def test_any_trees(self):
        for tree in ANY:
            for truth in product((True, False), repeat=4):
                for k in (0, 1, 3):
                    for rule in RULES:
                        for noise in (NOISES[1], NOISES[3], NOISES[4]):
                            self.check(tree, truth, noise, k, rule)


if __name__ == "__main__":
    unittest.main()
