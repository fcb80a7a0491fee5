import unittest

import plain
from firstbreak.counts import fewest_counts
from firstbreak.errors import BadState
from firstbreak.hunt import Hunt
from firstbreak.patches import fewest_patches, next_numbers
from test_patches import least_q


class PlainHunt:
    """A hunt that keeps for each patch how often it was contradicted."""

    def __init__(self, n):
        self.often = [0] * n
        self.told = 0

    def left(self):
        return tuple(tuple(p for p, many in enumerate(self.often) if many == times) for times in (0, 1))

    def test(self):
        whole, once = self.left()
        x, y = next_numbers(len(whole), len(once))
        return tuple(sorted(whole[:x] + once[:y]))

    def tell(self, broken):
        tested = self.test()
        self.often = [many + ((p in tested) != broken) for p, many in enumerate(self.often)]
        self.told += 1

    def all_told(self):
        whole, once = self.left()
        both = whole + once
        ended = len(both) < 2
        most = 0 if ended else least_q(len(whole), len(once)) if once else fewest_patches(len(whole))
        return (whole, once), ended, both[0] if len(both) == 1 else -1, self.told, most


def all_told(hunt):
    return hunt.left(), hunt.ended(), hunt.found(), hunt.asked(), hunt.most()


class Hunts(unittest.TestCase):
    def go(self, n, breaks, false_at):
        """The moments of a hunt for a patch, one answer of which is false."""
        hunt = Hunt(n)
        moments = [hunt.most()]
        while not hunt.ended():
            hunt.tell((breaks in hunt.test()) != (hunt.asked() == false_at))
            moments.append(hunt.most())
        self.assertEqual(hunt.found(), breaks)
        self.assertEqual(hunt.asked(), len(moments) - 1)
        for at, most in enumerate(moments):
            self.assertGreaterEqual(most, hunt.asked() - at)
        return hunt.asked()

    def test_each_patch_and_each_false_answer(self):
        for n in range(1, 41):
            fewest = fewest_patches(n)
            longest = 0
            for breaks in range(n):
                for false_at in range(-1, fewest):
                    longest = max(longest, self.go(n, breaks, false_at))
            self.assertLessEqual(longest, fewest)
            if n < 13:
                self.assertEqual(fewest_counts(n, 1), fewest)

    def test_any_answers(self):
        for n in range(1, 12):
            self.all_answers(n, ())
        for n in (20, 33, 40):
            rolls = plain.dice(n)
            for _ in range(30):
                answers = []
                while not self.compare(n, answers).ended():
                    answers.append(next(rolls) % 2 == 0)

    def all_answers(self, n, answers):
        """How many more answers come at most."""
        hunt = self.compare(n, answers)
        if hunt.ended():
            return 0
        many = 1 + max(self.all_answers(n, answers + (broken,)) for broken in (True, False))
        self.assertLessEqual(many, hunt.most())
        return many

    def compare(self, n, answers):
        hunt, right = Hunt(n), PlainHunt(n)
        for broken in answers:
            self.assertIsNone(hunt.tell(broken))
            right.tell(broken)
        self.assertEqual(all_told(hunt), right.all_told())
        self.assertLessEqual(len(answers), fewest_patches(n))
        if hunt.ended():
            self.refused(hunt)
        else:
            self.assertEqual(hunt.test(), right.test())
        return hunt

    def refused(self, hunt):
        before = all_told(hunt)
        for call in (hunt.test, lambda: hunt.tell(True), lambda: hunt.tell(False)):
            with self.assertRaises(BadState):
                call()
        self.assertEqual(all_told(hunt), before)

    def test_more_than_one_false_answer(self):
        hunt = Hunt(2)
        for broken in (True, False, False):
            self.assertEqual(hunt.test(), (0,))
            hunt.tell(broken)
        self.assertEqual(all_told(hunt), (((), (1,)), True, 1, 3, 0))
        self.refused(hunt)
        # Each test parts those that are left, so whatever the answers are somebody stays.
        for n in range(2, 9):
            for number in range(2 ** fewest_patches(n)):
                hunt = Hunt(n)
                while not hunt.ended():
                    hunt.tell(number >> hunt.asked() & 1 == 1)
                self.assertIn(hunt.found(), range(n))

    def test_one_patch(self):
        hunt = Hunt(1)
        self.assertEqual(all_told(hunt), (((0,), ()), True, 0, 0, 0))
        self.refused(hunt)
        with self.assertRaises(BadState):
            hunt.undo()

    def test_tell_without_test(self):
        for n in range(2, 20):
            asking, silent = Hunt(n), Hunt(n)
            rolls = plain.dice(n)
            while not silent.ended():
                broken = next(rolls) % 2 == 1
                for _ in range(3):
                    self.assertEqual(asking.test(), asking.test())
                asking.tell(broken)
                silent.tell(broken)
                self.assertEqual(all_told(asking), all_told(silent))

    def test_undo_through_all_moments(self):
        for n in (2, 3, 7, 20, 2000):
            rolls = plain.dice(n)
            hunt = Hunt(n)
            moments = []
            for _ in range(2):
                while not hunt.ended():
                    moments.append((all_told(hunt), hunt.test()))
                    hunt.tell(next(rolls) % 2 == 1)
                while moments:
                    self.assertIsNone(hunt.undo())
                    self.assertEqual((all_told(hunt), hunt.test()), moments.pop())
                before = all_told(hunt)
                with self.assertRaises(BadState):
                    hunt.undo()
                self.assertEqual(all_told(hunt), before)

    def test_another_answer_behind_undo(self):
        hunt, other = Hunt(9), Hunt(9)
        hunt.tell(True)
        hunt.undo()
        hunt.tell(False)
        other.tell(False)
        self.assertEqual(all_told(hunt), all_told(other))

    def test_two_thousand(self):
        for breaks in (0, 1, 999, 1000, 1998, 1999):
            for false_at in range(-1, fewest_patches(2000)):
                self.assertLessEqual(self.go(2000, breaks, false_at), fewest_patches(2000))
        hunt = Hunt(2000)
        self.assertEqual(hunt.test(), tuple(range(1000)))
        self.assertEqual(hunt.most(), fewest_patches(2000))

    def test_hunts_keep_to_themselves(self):
        hunt, other = Hunt(6), Hunt(6)
        hunt.tell(True)
        self.assertEqual(all_told(other), all_told(Hunt(6)))


if __name__ == "__main__":
    unittest.main()
