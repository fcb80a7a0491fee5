import unittest
from itertools import product

import plain
from firstbreak.answerer import Answerer
from firstbreak.errors import BadState, TooGreat
from firstbreak.search import fewest_from
from firstbreak.weights import after


def told(answerer):
    return answerer.state(), answerer.answers(), answerer.needed()


def right_answer(game, state, m):
    """The answer of n1 by its words."""
    broken, works = (game.after(state, (kind, m)) for kind in ("broken", "works"))
    if game.fewest(broken) != game.fewest(works):
        return "broken" if game.fewest(broken) > game.fewest(works) else "works"
    hits = [sum(game.hit[kind, m][at] for at in game.inside(state)) for kind in ("broken", "works")]
    return "works" if hits[1] < hits[0] else "broken"


class Answers(unittest.TestCase):
    def go(self, game, state, makes):
        """Test makes, one after another, and look at each moment."""
        answerer = Answerer(game.history, game.skipped, state)
        first = game.fewest(state)
        answers = ()
        self.assertEqual(told(answerer), (state, (), first))
        for m in makes:
            right = right_answer(game, state, m)
            self.assertEqual(answerer.test(m), right, (game.history, state, m))
            state = game.after(state, (right, m))
            answers += ((right, m),)
            self.assertEqual(told(answerer), (state, answers, game.fewest(state)))
            self.assertGreaterEqual(answerer.needed(), first - len(answers))
        return answerer

    def games(self):
        for history in plain.SMALL:
            for skipped in plain.subsets(plain.indices(history), 1):
                if len(skipped) < len(history[1]):
                    yield plain.Plain(history, skipped)

    def test_all_states_and_tests(self):
        for game in self.games():
            for state in product((-1, 0, 1), repeat=len(game.rows)):
                for m in game.makes:
                    self.go(game, state, (m,))

    def test_all_rows_of_tests(self):
        for game in self.games():
            most = 3 if len(game.makes) < 4 else 2
            for k in range(2):
                for makes in product(game.makes, repeat=most):
                    self.go(game, game.start(k), makes)

    def test_long_rows_of_tests(self):
        for history, skipped, k in (
            (plain.chain(5), (), 1), (plain.fan(5), (), 1), (plain.DIAMOND, (1,), 3), (plain.chain(2), (), 5),
            (plain.SAMPLES[-1], (), 0), (plain.SAMPLES[-2], (2, 3), 1), (plain.fan(6), (5,), 0),
        ):
            game = plain.Plain(history, skipped)
            for seed in range(6):
                rolls = plain.dice(seed)
                self.go(game, game.start(k), [game.makes[next(rolls) % len(game.makes)] for _ in range(25)])

    def test_the_same_make_again_and_again(self):
        game = plain.Plain(plain.chain(3))
        for m in range(3):
            for k in range(4):
                self.go(game, game.start(k), (m,) * 12)

    def test_tests_that_are_not_useful(self):
        answerer = Answerer(plain.chain(3), (), (0, 0, 0))
        # Works of the last make contradicts all, so broken leaves the most.
        self.assertEqual([answerer.test(2) for _ in range(3)], ["broken"] * 3)
        self.assertEqual(told(answerer), ((0, 0, 0), (("broken", 2),) * 3, 2))

    def test_settled_states(self):
        # With none in both answers are alike, so it is broken; one class that is in is left alone.
        for state, m, right in (
            ((-1, -1, -1), 0, "broken"), ((-1, -1, -1), 2, "broken"), ((0, -1, -1), 0, "broken"),
            ((-1, 0, -1), 0, "works"), ((-1, 3, -1), 1, "broken"), ((-1, -1, 2), 1, "works"), ((-1, -1, 2), 2, "broken"),
        ):
            answerer = Answerer(plain.chain(3), (), state)
            self.assertEqual(answerer.test(m), right)
            self.assertEqual(told(answerer), (state, ((right, m),), 0))

    def test_ties(self):
        # As many tests behind both answers, which contradict as many classes.
        self.assertEqual(Answerer(plain.chain(4), (), (0, 0, 0, 0)).test(1), "broken")
        self.assertEqual(Answerer(plain.chain(2), (), (0, 0)).test(0), "broken")
        # As many tests, but one of the answers contradicts fewer classes.
        game = plain.Plain(plain.fan(5))
        fewer = 0
        for state in product((-1, 0, 1), repeat=5):
            for m in range(5):
                both = [game.after(state, (kind, m)) for kind in ("broken", "works")]
                if game.fewest(both[0]) == game.fewest(both[1]) and right_answer(game, state, m) == "works":
                    self.assertEqual(Answerer(game.history, (), state).test(m), "works")
                    fewer += 1
        self.assertGreater(fewer, 10)


class Holds(unittest.TestCase):
    def test_needed_falls_by_one_at_most_and_somebody_stays(self):
        for history, k in ((plain.chain(6), 1), (plain.fan(7), 2), (plain.fan(14), 0), (plain.mixed(9, 3, 4), 1)):
            for seed in range(4):
                rolls = plain.dice(seed)
                answerer = Answerer(history, (), (k,) * len(history[1]))
                first = answerer.needed()
                for many in range(1, 40):
                    m = next(rolls) % len(history[1])
                    before = answerer.state()
                    kind = answerer.test(m)
                    self.assertEqual(answerer.state(), after(history, (), before, (kind, m)))
                    self.assertEqual(answerer.needed(), fewest_from(history, (), answerer.state()))
                    self.assertGreaterEqual(answerer.needed(), first - many)
                    self.assertGreaterEqual(max(answerer.state()), 0)
                # Those that are in are contradicted by at most k answers.
                for c, left in enumerate(answerer.state()):
                    against = sum(plain.plain_contradicts(history, c, answer) for answer in answerer.answers())
                    self.assertEqual(left, k - against if against <= k else -1)


class Undo(unittest.TestCase):
    def test_back_through_all_moments(self):
        history = plain.DIAMOND
        for skipped, state in (((), (1, 1, 1, 1)), ((1,), (2, 0, 1)), ((), (-1, 0, -1, -1))):
            makes = [m for m in range(4) if m not in skipped]
            answerer = Answerer(history, skipped, state)
            for seed in range(3):
                rolls = plain.dice(seed)
                moments = []
                for _ in range(12):
                    moments.append(told(answerer))
                    answerer.test(makes[next(rolls) % len(makes)])
                while moments:
                    self.assertIsNone(answerer.undo())
                    self.assertEqual(told(answerer), moments.pop())
            with self.assertRaises(BadState):
                answerer.undo()
            self.assertEqual(told(answerer), (state, (), fewest_from(history, skipped, state)))

    def test_skipped_makes(self):
        answerer = Answerer(plain.chain(4), (1, 3), (1, 1, 1))
        answerer.test(0)
        before = told(answerer)
        for m in (1, 3):
            with self.assertRaises(BadState):
                answerer.test(m)
            self.assertEqual(told(answerer), before)
        answerer.test(2)
        self.assertEqual([m for _, m in answerer.answers()], [0, 2])

    def test_too_great(self):
        for n, k in ((14, 0), (9, 1), (7, 2), (3, 20), (2, 20)):
            Answerer(plain.chain(n), (), (k,) * n)
            Answerer(plain.chain(n), (), (-1,) * (n - 1) + (k,))
        for n, state in (
            (15, (0,) * 15), (10, (1,) * 10), (8, (-1,) * 7 + (2,)), (15, (-1,) * 15), (24, (20,) * 24), (15, (0,) + (-1,) * 14),
        ):
            with self.assertRaises(TooGreat):
                Answerer(plain.chain(n), (), state)


if __name__ == "__main__":
    unittest.main()
