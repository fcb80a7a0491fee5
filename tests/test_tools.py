import unittest

import plain
from firstbreak.answers import can_be
from firstbreak.histories import ancestors, check_history
from firstbreak.tools import between, gates, main_line, merges, reduced, sides, to_blame, up_to, ways

LONG = [plain.mixed(n, most, seed) for n in (9, 14, 24) for most in (2, 4) for seed in range(3)]
ALL = plain.SAMPLES + LONG


def parents_of(history, m):
    return history[1][m][1]


def all_ways(history, m):
    """Each way from make m to the last one."""
    last = len(history[1]) - 1
    if m == last:
        return [(m,)]
    return [
        (m,) + way for child in range(m + 1, last + 1) if m in parents_of(history, child)
        for way in all_ways(history, child)
    ]


def reaches(history, m, last, without):
    """Whether a way from one make to another one leaves out a third one."""
    if without in (m, last):
        return False
    return m == last or any(
        m in parents_of(history, child) and reaches(history, child, last, without) for child in range(m + 1, last + 1)
    )


class Between(unittest.TestCase):
    def test_no_answer_contradicts(self):
        for history in plain.SMALL:
            makes = plain.subsets(plain.indices(history))
            for broken in makes:
                for works in makes:
                    answers = [("broken", m) for m in broken] + [("works", m) for m in works]
                    right = tuple(
                        c for c in plain.indices(history)
                        if not any(plain.plain_contradicts(history, c, answer) for answer in answers)
                    )
                    self.assertEqual(between(history, broken, works), right)
                    self.assertEqual(between(history, broken[::-1] + broken, works[::-1] + works), right)
                    self.assertEqual(can_be(history, tuple(answers), 0), right)

    def test_no_makes_told(self):
        for history in ALL:
            self.assertEqual(between(history, (), ()), tuple(plain.indices(history)))

    def test_none_left(self):
        self.assertEqual(between(plain.chain(3), (0,), (1,)), ())
        self.assertEqual(between(plain.chain(3), (1,), (1,)), ())
        self.assertEqual(between(plain.chain(3), (), (2,)), ())
        self.assertEqual(between(plain.fan(5), (0, 1), ()), ())
        self.assertEqual(between(plain.fan(5), (), (0, 1, 2, 3)), (4,))
        self.assertEqual(between(plain.chain(4), (3, 2), (0,)), (1, 2))


class Merges(unittest.TestCase):
    def test_merges(self):
        for history in ALL:
            right = tuple(m for m in plain.indices(history) if len(parents_of(history, m)) >= 2)
            self.assertEqual(merges(history), right)
        self.assertEqual(merges(plain.chain(5)), ())
        self.assertEqual(merges(plain.history_of((), (), (0, 1), (), (), (0, 2, 3, 4))), (2, 5))

    def test_sides(self):
        for history in ALL:
            for m in plain.indices(history):
                found = sides(history, m)
                parents = parents_of(history, m)
                self.assertEqual(len(found), len(parents))
                for at, side in enumerate(found):
                    ahead = set().union(*(plain.walk(history, parent) for parent in parents[:at]))
                    self.assertEqual(side, tuple(sorted(plain.walk(history, parents[at]) - ahead)))
                    # A parent is no ancestor of one ahead of it, so no side is empty.
                    self.assertIn(parents[at], side)
                together = sorted(one for side in found for one in side)
                self.assertEqual(together, sorted(plain.walk(history, m) - {m}))

    def test_sides_by_hand(self):
        self.assertEqual(sides(plain.chain(3), 0), ())
        self.assertEqual(sides(plain.chain(1), 0), ())
        self.assertEqual(sides(plain.chain(3), 2), ((0, 1),))
        self.assertEqual(sides(plain.DIAMOND, 3), ((0, 1), (2,)))
        self.assertEqual(sides(plain.history_of((), (0,), (1,), (0, 2)), 3), ((0,), (1, 2)))
        self.assertEqual(sides(plain.fan(5), 4), ((0,), (1,), (2,), (3,)))

    def test_main_line(self):
        self.assertEqual(main_line(plain.chain(1)), (0,))
        self.assertEqual(main_line(plain.chain(4)), (3, 2, 1, 0))
        self.assertEqual(main_line(plain.DIAMOND), (3, 1, 0))
        self.assertEqual(main_line(plain.history_of((), (), (0, 1), (1,), (1, 2, 3))), (4, 1))
        self.assertEqual(main_line(plain.history_of((), (), (1,), (2,), (0,), (3, 4))), (5, 3, 2, 1))
        for history in ALL:
            line = main_line(history)
            self.assertEqual(line[0], len(history[1]) - 1)
            self.assertEqual(parents_of(history, line[-1]), ())
            for m, behind in zip(line, line[1:]):
                self.assertEqual(parents_of(history, m)[0], behind)


class Reduced(unittest.TestCase):
    def test_by_the_definition(self):
        for history in ALL:
            found = reduced(history)
            check_history(found)
            for m, (name, parents) in enumerate(history[1]):
                right = tuple(
                    parent for parent in parents
                    if not any(parent in plain.walk(history, other) for other in parents if other != parent)
                )
                self.assertEqual(found[1][m], (name, right))
                self.assertEqual(plain.walk(found, m), plain.walk(history, m))
            self.assertEqual(reduced(found), found)

    def test_idle_from_far(self):
        far = plain.history_of((), (0,), (1,), (2,), (3,), (0, 4))
        self.assertEqual(reduced(far), plain.chain(6))
        self.assertEqual(reduced(plain.DIAMOND), plain.DIAMOND)
        both = plain.history_of((), (), (0, 1), (2,), (0, 1, 3))
        self.assertEqual(reduced(both), plain.history_of((), (), (0, 1), (2,), (3,)))
        # The one idle parent is idle by way of another idle one.
        self.assertEqual(reduced(plain.history_of((), (0,), (1,), (0, 1, 2))), plain.chain(4))


class UpTo(unittest.TestCase):
    def test_each_make(self):
        for history in ALL:
            for m in plain.indices(history):
                found = up_to(history, m)
                check_history(found)
                row = sorted(plain.walk(history, m))
                self.assertEqual([name for name, _ in found[1]], [history[1][old][0] for old in row])
                for new, old in enumerate(row):
                    self.assertEqual([row[parent] for parent in parents_of(found, new)], list(parents_of(history, old)))
                    self.assertEqual([row[one] for one in ancestors(found, new)], list(ancestors(history, old)))

    def test_by_hand(self):
        self.assertEqual(up_to(plain.chain(4), 0), plain.chain(1))
        self.assertEqual(up_to(plain.chain(4), 3), plain.chain(4))
        self.assertEqual(up_to(plain.fan(5), 2), ("history", (("c", ()),)))
        history = plain.history_of((), (), (1,), (1, 2), (0, 3))
        self.assertEqual(up_to(history, 3), ("history", (("b", ()), ("c", (0,)), ("d", (0, 1)))))


class Ways(unittest.TestCase):
    def test_one_by_one(self):
        for history in plain.SAMPLES + LONG[:12]:
            for m in plain.indices(history):
                self.assertEqual(ways(history, m), len(all_ways(history, m)))

    def test_many_ways(self):
        ladder = plain.history_of(*[tuple(range(max(0, at - 4), at)) for at in range(24)])
        counts = [1]
        for _ in range(23):
            counts.append(sum(counts[-4:]))
        self.assertEqual([ways(ladder, m) for m in range(24)], counts[::-1])
        self.assertEqual([gates(ladder, m) for m in range(23)], [(m, 23) for m in range(23)])

    def test_gates_by_leaving_each_out(self):
        for history in plain.SAMPLES + LONG[:12]:
            last = len(history[1]) - 1
            for m in plain.indices(history):
                right = tuple(g for g in plain.indices(history) if not reaches(history, m, last, g))
                self.assertEqual(gates(history, m), right)

    def test_of_the_first_and_the_last(self):
        for history in ALL:
            last = len(history[1]) - 1
            self.assertEqual((ways(history, last), gates(history, last)), (1, (last,)))
        self.assertEqual((ways(plain.chain(5), 0), gates(plain.chain(5), 0)), (1, (0, 1, 2, 3, 4)))
        self.assertEqual((ways(plain.DIAMOND, 0), gates(plain.DIAMOND, 0)), (2, (0, 3)))
        self.assertEqual((ways(plain.DIAMOND, 1), gates(plain.DIAMOND, 1)), (1, (1, 3)))


class ToBlame(unittest.TestCase):
    def test_by_the_definition(self):
        for history in plain.SMALL:
            for answers in plain.subsets(plain.all_answers(history)):
                right = tuple(
                    m for m in plain.indices(history)
                    if ("broken", m) in answers and all(("works", parent) in answers for parent in parents_of(history, m))
                )
                self.assertEqual(to_blame(history, answers), right)

    def test_same_make_more_than_once(self):
        history = plain.chain(3)
        answers = (("broken", 1), ("works", 0), ("broken", 1), ("works", 1), ("broken", 2), ("works", 0))
        self.assertEqual(to_blame(history, answers), (1, 2))
        self.assertEqual(to_blame(history, answers[:3]), (1,))
        self.assertEqual(to_blame(history, (("broken", 0), ("broken", 0), ("works", 0))), (0,))

    def test_parents_told_in_part(self):
        history = plain.fan(5)
        works = tuple(("works", m) for m in range(4))
        self.assertEqual(to_blame(history, works + (("broken", 4),)), (4,))
        for at in range(4):
            self.assertEqual(to_blame(history, works[:at] + works[at + 1:] + (("broken", 4),)), ())
        self.assertEqual(to_blame(history, works[:3] + (("broken", 4), ("broken", 3))), (3,))
        self.assertEqual(to_blame(history, ()), ())
        self.assertEqual(to_blame(history, works), ())

    def test_the_one_that_broke_it(self):
        for history in plain.SAMPLES + LONG:
            for c in plain.indices(history):
                answers = tuple(
                    answer for answer in plain.all_answers(history)
                    if not plain.plain_contradicts(history, c, answer)
                )
                self.assertEqual(to_blame(history, answers), (c,))
                for at in range(len(answers)):
                    self.assertIn(to_blame(history, answers[:at] + answers[at + 1:]), ((), (c,)))


if __name__ == "__main__":
    unittest.main()
