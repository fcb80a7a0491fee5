import unittest
from itertools import product

import plain
from firstbreak.answers import (
    can_be, certain_paper, check_answers, contradictions, contradicts, judge_certain, verdict,
)
from firstbreak.errors import BadAnswer

ODD_THINGS = (None, 0, 1, True, "", "paper", (), [], {}, (None,), ((),), b"", 1.5)


def rows_of_answers(history, most):
    answers = plain.all_answers(history)
    return [row for many in range(most + 1) for row in product(answers, repeat=many)]


def plain_counts(history, answers):
    return tuple(
        sum(plain.plain_contradicts(history, c, answer) for answer in answers) for c in plain.indices(history)
    )


class Checks(unittest.TestCase):
    history = plain.chain(3)

    def refused(self, answers, place):
        with self.assertRaises(BadAnswer) as caught:
            check_answers(self.history, answers)
        self.assertEqual(caught.exception.place, place)

    def test_right_ones(self):
        for answers in rows_of_answers(self.history, 2):
            self.assertIsNone(check_answers(self.history, answers))
        self.assertIsNone(check_answers(self.history, (("works", 2),) * 400))

    def test_wrong_ones_at_their_places(self):
        right = ("broken", 0)
        for wrong in (
            ("break", 0), ("Broken", 0), ("", 0), (None, 0), (True, 0), (["works"], 0), ("works", 3), ("works", -1),
            ("broken", 10 ** 30), ("works", True), ("broken", False), ("works", "0"), ("works", "a"), ("works", None),
            ("works", (0,)), ("works", 1.0), ["works", 0], ("works",), ("works", 0, 0), (), None, 0, True, "works", "ab",
            {}, (("works", 0),), (0, "works"), b"ab",
        ):
            for many in (0, 1, 5):
                self.refused((right,) * many + (wrong,), many)
                self.refused((right,) * many + (wrong, right, None), many)

    def test_no_tuple(self):
        for thing in (None, 0, True, "", "ab", [], [("works", 0)], [None], {}, [("works", 0)] * 401, b""):
            self.refused(thing, 0)

    def test_too_many(self):
        right = ("broken", 0)
        self.refused((right,) * 399 + (None,), 399)
        self.refused((right,) * 401, 400)
        self.refused((None,) + (right,) * 400, 400)
        self.refused((right,) * 400 + (None,), 400)
        self.refused((None,) * 1000, 400)


class Candidates(unittest.TestCase):
    def test_contradicts(self):
        for history in plain.SAMPLES:
            for answer in plain.all_answers(history):
                for c in plain.indices(history):
                    self.assertIs(contradicts(history, c, answer), plain.plain_contradicts(history, c, answer))

    def test_contradictions_and_can_be(self):
        for history in plain.SMALL[:10] + plain.SAMPLES[-2:]:
            for answers in rows_of_answers(history, 2 if len(history[1]) > 3 else 3):
                counts = plain_counts(history, answers)
                self.assertEqual(contradictions(history, answers), counts)
                for k in (0, 1, 2, 3, 400):
                    row = tuple(c for c in plain.indices(history) if counts[c] <= k)
                    self.assertEqual(can_be(history, answers, k), row)

    def test_many_answers(self):
        history = plain.fan(24)
        answers = tuple(plain.all_answers(history)) * 8
        counts = plain_counts(history, answers)
        self.assertEqual(contradictions(history, answers), counts)
        for k in range(401):
            row = tuple(c for c in range(24) if counts[c] <= k)
            self.assertEqual(can_be(history, answers, k), row)

    def test_by_hand(self):
        history = plain.chain(3)
        answers = (("works", 0), ("broken", 1), ("broken", 1), ("works", 1))
        self.assertEqual(contradictions(history, answers), (2, 1, 2))
        self.assertEqual(contradictions(history, ()), (0, 0, 0))
        self.assertEqual([can_be(history, answers, k) for k in range(3)], [(), (1,), (0, 1, 2)])


class Verdicts(unittest.TestCase):
    def test_against_the_definition(self):
        for history in plain.SMALL[:12]:
            for skipped in plain.subsets(plain.indices(history)):
                rows = plain.plain_classes(history, skipped)
                for answers in rows_of_answers(history, 2):
                    for k in range(3):
                        row = tuple(c for c, many in enumerate(plain_counts(history, answers)) if many <= k)
                        if not row:
                            right = ("none",)
                        elif len(row) == 1:
                            right = ("one", row[0])
                        elif any(set(row) <= set(alike) for alike in rows):
                            right = ("alike", row)
                        else:
                            right = ("open", row)
                        self.assertEqual(verdict(history, skipped, answers, k), right)

    def test_by_hand(self):
        history = plain.history_of((), (0,), (0,), (1, 2))
        self.assertEqual(verdict(history, (), (("works", 3),), 0), ("none",))
        self.assertEqual(verdict(history, (), (("works", 3),), 1), ("open", (0, 1, 2, 3)))
        self.assertEqual(verdict(history, (1,), (("works", 0), ("works", 2)), 0), ("alike", (1, 3)))
        self.assertEqual(verdict(history, (), (("works", 0), ("works", 2)), 0), ("open", (1, 3)))
        self.assertEqual(verdict(history, (1,), (("works", 0), ("broken", 1)), 0), ("one", 1))
        self.assertEqual(verdict(history, (0, 1, 2, 3), (), 0), ("alike", (0, 1, 2, 3)))
        self.assertEqual(verdict(plain.chain(1), (0,), (), 0), ("one", 0))
        self.assertEqual(verdict(history, (1, 2), (("works", 0),), 0), ("alike", (1, 2, 3)))

    def test_the_one_that_broke_it_can_be_it(self):
        for history in plain.SMALL:
            for truth in plain.indices(history):
                true = [
                    ("broken" if truth in plain.walk(history, m) else "works", m)
                    for m in plain.indices(history) for _ in range(2)
                ]
                for lies in plain.subsets(range(len(true)), 2):
                    answers = tuple(
                        ("works" if kind == "broken" else "broken", m) if at in lies else (kind, m)
                        for at, (kind, m) in enumerate(true)
                    )
                    self.assertIn(truth, can_be(history, answers, len(lies)))
                    self.assertNotEqual(verdict(history, (), answers, 2), ("none",))


class Papers(unittest.TestCase):
    def right_paper(self, history, answers, k, c):
        paper = []
        for other in plain.indices(history):
            against = [at for at, one in enumerate(answers) if plain.plain_contradicts(history, other, one)]
            if other != c and len(against) <= k:
                return None
            if other != c:
                paper.append((other, tuple(against[:k + 1])))
        return tuple(paper)

    def test_first_places(self):
        seen = 0
        for history in plain.SMALL[:12]:
            for answers in rows_of_answers(history, 4 if len(history[1]) < 3 else 3):
                for k in range(3):
                    for c in plain.indices(history):
                        right = self.right_paper(history, answers, k, c)
                        self.assertEqual(certain_paper(history, answers, k, c), right)
                        if right is not None:
                            seen += 1
                            self.assertIs(judge_certain(history, answers, k, c, right), True)
        self.assertGreater(seen, 100)

    def test_great_ones(self):
        history = plain.chain(24)
        answers = (("works", 10), ("broken", 11)) * 200
        paper = certain_paper(history, answers, 199, 11)
        self.assertEqual(paper, self.right_paper(history, answers, 199, 11))
        self.assertEqual(paper[0], (0, tuple(range(0, 400, 2))))
        self.assertEqual(paper[-1], (23, tuple(range(1, 400, 2))))
        self.assertIs(judge_certain(history, answers, 199, 11, paper), True)
        self.assertIs(judge_certain(history, answers, 200, 11, paper), False)
        self.assertIsNone(certain_paper(history, answers, 200, 11))

    def test_cannot_be_it_itself(self):
        history = plain.chain(2)
        answers = (("works", 1), ("broken", 0))
        self.assertEqual(can_be(history, answers, 0), ())
        self.assertEqual(certain_paper(history, answers, 0, 0), ((1, (0,)),))
        self.assertEqual(certain_paper(history, answers, 0, 1), ((0, (0,)),))
        self.assertIsNone(certain_paper(history, answers, 1, 1))
        self.assertEqual(certain_paper(history, answers, 1, 0), ((1, (0, 1)),))

    def test_one_make(self):
        history = plain.chain(1)
        for answers in ((), (("works", 0),) * 3):
            for k in (0, 2, 400):
                self.assertEqual(certain_paper(history, answers, k, 0), ())
                self.assertIs(judge_certain(history, answers, k, 0, ()), True)
                for thing in ODD_THINGS + (((0, (0,)),), ((0, (0, 1, 2)),)):
                    if thing != ():
                        self.assertIs(judge_certain(history, answers, k, 0, thing), False)

    history = plain.chain(3)
    answers = (("works", 0), ("works", 0), ("broken", 1), ("works", 0), ("broken", 1), ("works", 1))

    def judged(self, paper, k=1, c=1):
        return judge_certain(self.history, self.answers, k, c, paper)

    def test_other_right_places(self):
        self.assertEqual(certain_paper(self.history, self.answers, 1, 1), ((0, (0, 1)), (2, (2, 4))))
        for places in plain.subsets((0, 1, 3, 5)):
            right = len(places) == 2
            self.assertIs(self.judged(((0, places), (2, (2, 4)))), right)
        self.assertIs(self.judged(((0, (1,)), (2, (4,))), 0), True)

    def test_spoilt_places(self):
        for places in (
            (), (0,), (0, 1, 3), (0, 0), (1, 0), (3, 1), (0, 2), (2, 4), (0, 6), (-1, 0), (-6, 1), (0, 10 ** 30),
            (False, 1), (0, True), (False, True), [0, 1], None, 0, "01", ("0", "1"), (None, None), ((0, 1),), (0.0, 1),
            {0: 1, 1: 2}, (0, (1,)), (0, None), ([], 1),
        ):
            self.assertIs(self.judged(((0, places), (2, (2, 4)))), False, places)

    def test_spoilt_papers(self):
        first, last = (0, (0, 1)), (2, (2, 4))
        self.assertIs(self.judged((first, last)), True)
        for paper in ODD_THINGS + (
            [first, last], (first,), (last,), (last, first), (first, first, last), (first, last, last), (first, first),
            (first, (1, (0, 1)), last), ((1, (0, 1)), last), (first, (1, (2, 5))), (list(first), last), (first, list(last)),
            ((False, (0, 1)), last), ((0, (0, 1), ()), last), ((0,), last), ((), last), (None, last), (first, 2),
            (first, (2,)), (first, ("2", (2, 4))), (first, (None, (2, 4))), (first, ([2], (2, 4))), (first, (3, (2, 4))),
            (first, (-1, (2, 4))), (first, (0, (0, 1))), (first, "ab"), (first, (2.0, (2, 4))), ((0.0, (0, 1)), last),
            {0: (0, 1), 2: (2, 4)}, (first, last, ()), (first, last, None), ((0, (0, 1)), (2, (0, 1))),
        ):
            self.assertIs(self.judged(paper), False, paper)

    def test_true_in_the_place_of_a_candidate(self):
        answers = (("works", 1), ("broken", 0))
        self.assertIs(judge_certain(plain.chain(2), answers, 0, 0, ((1, (0,)),)), True)
        self.assertIs(judge_certain(plain.chain(2), answers, 0, 0, ((True, (0,)),)), False)

    def test_not_certain(self):
        for c in (0, 2):
            others = [other for other in range(3) if other != c]
            self.assertIsNone(certain_paper(self.history, self.answers, 1, c))
            paper = tuple((other, places) for other, places in zip(others, ((0, 1), (2, 4))))
            self.assertIs(self.judged(paper, 1, c), False)


if __name__ == "__main__":
    unittest.main()
