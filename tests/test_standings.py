import unittest

import plain
from firstbreak.answers import can_be, certain_paper
from firstbreak.standings import (
    certain_against, course, decisive, ranking, rivals, spares, standings_text, tellings, to_take_away,
)


def against(history, answers):
    """For each candidate how many answers contradict it."""
    under = [plain.walk(history, m) for m in plain.indices(history)]
    return [sum((c in under[m]) == (kind == "works") for kind, m in answers) for c in plain.indices(history)]


def drawn(history, many, seed):
    told = plain.all_answers(history)
    rolls = plain.dice(seed)
    truth = next(rolls) % len(history[1])
    answers = []
    while len(answers) < many:
        answer = told[next(rolls) % len(told)]
        # In every other row mostly true ones, so that some candidate stays.
        if seed % 2 or not plain.plain_contradicts(history, truth, answer) or next(rolls) % 5 == 0:
            answers.append(answer)
    return tuple(answers)


def rows():
    """Histories with answers."""
    for at, history in enumerate(plain.SMALL[::4] + plain.SAMPLES[-5:] + [plain.mixed(24, 4, 1), plain.chain(24)]):
        for many in (0, 1, 2, 3, 5, 9, 20):
            yield history, drawn(history, many, at + many)
    for history in (plain.chain(1), plain.DIAMOND, plain.mixed(24, 3, 2)):
        for seed in (0, 1):
            yield history, drawn(history, 400, seed)


BOUNDS = (0, 1, 2, 3, 5, 20, 400)


class Counts(unittest.TestCase):
    def test_spares(self):
        for history, answers in rows():
            many = against(history, answers)
            for k in BOUNDS:
                found = spares(history, answers, k)
                self.assertEqual(found, tuple(k - one for one in many))
                self.assertEqual(tuple(c for c, spare in enumerate(found) if spare >= 0), can_be(history, answers, k))

    def test_ranking(self):
        for history, answers in rows():
            many = against(history, answers)
            right = []
            for often in range(len(answers) + 1):
                right += [c for c in plain.indices(history) if many[c] == often]
            self.assertEqual(ranking(history, answers), tuple(right))

    def test_by_hand(self):
        history = plain.chain(4)
        answers = (("works", 0), ("works", 1), ("broken", 2), ("works", 0))
        self.assertEqual(spares(history, answers, 1), (-2, 0, 1, 0))
        self.assertEqual(ranking(history, answers), (2, 1, 3, 0))
        self.assertEqual([certain_against(history, answers, c) for c in range(4)], [-1, -1, 0, -1])
        self.assertEqual([rivals(history, answers, c) for c in range(4)], [(2,), (2,), (1, 3), (2,)])
        self.assertEqual(course(history, answers, 0), (4, 3, 2, 1, 1))
        self.assertEqual(course(history, answers, 1), (4, 4, 3, 3, 3))
        self.assertEqual((decisive(history, answers, 0), decisive(history, answers, 1)), (3, 2))
        self.assertEqual(to_take_away(history, answers, 0), (3, 1, 0, 1))
        self.assertEqual(to_take_away(history, answers, 2), (1, 0, 0, 0))
        text = "c spare 0\nb spare -1\nd spare -1\na spare -3\n"
        self.assertEqual(standings_text(history, answers, 0), text)

    def test_no_answers(self):
        history = plain.chain(3)
        self.assertEqual((spares(history, (), 4), ranking(history, ())), ((4, 4, 4), (0, 1, 2)))
        self.assertEqual((certain_against(history, (), 1), rivals(history, (), 1)), (-1, (0, 2)))
        self.assertEqual((course(history, (), 0), decisive(history, (), 0), to_take_away(history, (), 0)), ((3,), 0, (0, 0, 0)))
        self.assertEqual(standings_text(history, (), 4), "a spare 4\nb spare 4\nc spare 4\n")


class Certain(unittest.TestCase):
    def test_the_greatest(self):
        for history, answers in rows():
            if len(history[1]) > 1:
                many = against(history, answers)
                bounds = range(len(answers) + 2) if len(answers) < 10 else sorted(set(many))
                left = {bound: can_be(history, answers, bound) for bound in bounds}
                for c in plain.indices(history):
                    greatest = certain_against(history, answers, c)
                    for bound in bounds:
                        # Certain with a bound is that no other candidate can be it.
                        others = [other for other in left[bound] if other != c]
                        self.assertEqual(not others, bound <= greatest)
                        self.assertEqual(certain_paper(history, answers, bound, c) is not None, bound <= greatest)
                    least = min(many[other] for other in plain.indices(history) if other != c)
                    self.assertEqual(greatest, least - 1)
                    right = tuple(other for other in plain.indices(history) if other != c and many[other] == least)
                    self.assertEqual(rivals(history, answers, c), right)

    def test_one_make(self):
        for answers in ((), (("works", 0),), (("broken", 0),) * 3, (("works", 0),) * 400):
            self.assertEqual(certain_against(plain.chain(1), answers, 0), 200)
            self.assertEqual(rivals(plain.chain(1), answers, 0), ())
            self.assertEqual(ranking(plain.chain(1), answers), (0,))

    def test_many_answers(self):
        answers = (("works", 0),) * 400
        self.assertEqual([certain_against(plain.chain(2), answers, c) for c in (0, 1)], [-1, 399])
        self.assertEqual([rivals(plain.chain(2), answers, c) for c in (0, 1)], [(1,), (0,)])


class Tellings(unittest.TestCase):
    def test_any_rows(self):
        for history in plain.SMALL[::3] + plain.SAMPLES[-5:-1]:
            under = [plain.walk(history, m) for m in plain.indices(history)]
            for left in plain.subsets(plain.indices(history)):
                right = tuple((sum(c in row for c in left), sum(c not in row for c in left)) for row in under)
                self.assertEqual(tellings(history, left), right)

    def test_by_hand(self):
        self.assertEqual(tellings(plain.DIAMOND, (0, 1, 2, 3)), ((1, 3), (2, 2), (2, 2), (4, 0)))
        self.assertEqual(tellings(plain.DIAMOND, (2,)), ((0, 1), (0, 1), (1, 0), (1, 0)))
        self.assertEqual(tellings(plain.DIAMOND, ()), ((0, 0),) * 4)
        self.assertEqual(tellings(plain.chain(24), tuple(range(24))), tuple((m + 1, 23 - m) for m in range(24)))


class Courses(unittest.TestCase):
    def test_each_beginning(self):
        for history, answers in rows():
            counts = [against(history, answers[:many]) for many in range(len(answers) + 1)]
            for k in BOUNDS:
                steps = [tuple(c for c, many in enumerate(row) if many <= k) for row in counts]
                self.assertEqual(steps[-1], can_be(history, answers, k))
                found = course(history, answers, k)
                self.assertEqual(found, tuple(len(step) for step in steps))
                self.assertEqual(len(found), len(answers) + 1)
                right = min(j for j in range(len(steps)) if all(step == steps[-1] for step in steps[j:]))
                self.assertEqual(decisive(history, answers, k), right)

    def test_decisive(self):
        history = plain.chain(3)
        works, broken = ("works", 0), ("broken", 1)
        for answers, k, right in (
            ((), 0, 0), ((works,), 0, 1), ((works,), 1, 0), ((works, works), 1, 2), ((works, broken), 0, 2),
            ((works, works, broken), 0, 3), ((works, broken, works), 0, 2), ((("broken", 2),) * 3, 0, 0),
            ((works, ("broken", 2), works, ("broken", 2)), 1, 3), ((works, broken, ("works", 1)), 0, 3),
            ((works, broken, ("works", 1), works, works), 0, 3), ((("works", 2), works, broken), 0, 1),
        ):
            self.assertEqual(decisive(history, answers, k), right, (answers, k))

    def test_a_row_does_not_come_back(self):
        # Answers that come only rule out: whoever is gone stays gone, whatever comes behind.
        history = plain.chain(2)
        answers = (("works", 0), ("broken", 0), ("works", 0), ("broken", 0), ("broken", 0))
        self.assertEqual(course(history, answers, 0), (2, 1, 0, 0, 0, 0))
        self.assertEqual(decisive(history, answers, 0), 2)
        self.assertEqual(course(history, answers, 1), (2, 2, 2, 1, 0, 0))
        self.assertEqual(decisive(history, answers, 1), 4)
        self.assertEqual((course(history, answers, 2), decisive(history, answers, 2)), ((2, 2, 2, 2, 2, 1), 5))
        self.assertEqual((course(history, answers, 3), decisive(history, answers, 3)), ((2,) * 6, 0))


class TakingAway(unittest.TestCase):
    def test_leaving_out_answers_one_by_one(self):
        for at, history in enumerate(plain.SMALL[::5] + plain.SAMPLES[-5:]):
            for many in (0, 1, 3, 6):
                answers = drawn(history, many, at + many)
                for k in range(3):
                    found = to_take_away(history, answers, k)
                    for c in plain.indices(history):
                        self.assertEqual(found[c], self.fewest(history, answers, k, c))
                        self.assertEqual(found[c] == 0, c in can_be(history, answers, k))

    def fewest(self, history, answers, k, c):
        """The least number of answers without which a candidate can be it, all ways of leaving some out tried."""
        for gone in plain.subsets(range(len(answers))):
            kept = tuple(answer for at, answer in enumerate(answers) if at not in gone)
            if against(history, kept)[c] <= k:
                return len(gone)

    def test_many_answers(self):
        self.assertEqual(to_take_away(plain.chain(2), (("works", 0),) * 400, 0), (400, 0))
        self.assertEqual(to_take_away(plain.chain(2), (("works", 0),) * 400, 399), (1, 0))
        self.assertEqual(to_take_away(plain.chain(2), (("works", 0),) * 400, 400), (0, 0))


class Texts(unittest.TestCase):
    def test_lines(self):
        for history, answers in rows():
            for k in BOUNDS:
                right = ""
                for c in ranking(history, answers):
                    right += history[1][c][0] + " spare " + str(spares(history, answers, k)[c]) + "\n"
                self.assertEqual(standings_text(history, answers, k), right)

    def test_by_hand(self):
        names = ("history", (("old", ()), ("new", (0,))))
        self.assertEqual(standings_text(names, (("works", 0),) * 3, 1), "new spare 1\nold spare -2\n")
        self.assertEqual(standings_text(names, (("works", 0),), 1), "new spare 1\nold spare 0\n")
        self.assertEqual(standings_text(names, (), 0), "old spare 0\nnew spare 0\n")


if __name__ == "__main__":
    unittest.main()
