import unittest

import plain
from firstbreak.classes import classes
from firstbreak.errors import TooGreat
from firstbreak.roundplan import judge_rounds, round_plan, rounds_of
from firstbreak.rounds import fewest_rounds
from spoilt import ODD_THINGS
from test_rounds import PlainRounds, games, plain_patterns

WRONG_PARTS = ODD_THINGS + (
    ("round",), ("round", ()), ("round", (0,)), ("round", (), ()), ("round", (0,), ()), ("round", (0,), (), ()), "round",
    ("found", 0, ()), ("found", 0, (), ()), ("nobody",), ("ask", 0, ("found", 0), ("found", 1)), ("round", None, None),
    ["round", (0,), ()], ("found", (0,)), ("found", True), ("found", False), ("found", -1), ("found", 10 ** 30), ("found", "0"),
)
WRONG_MAKES = (
    (), None, 0, "0", [0], [], True, (None,), ("0",), (True,), (False,), (False, True), (0, True), ((0,),), ([0],), (-1,),
    (4,), (24,), (10 ** 30,), (-10 ** 30,), (-1, 0), (0, 4), (0, 24), (0, 0), (1, 1), (1, 0), (2, 1), (0, 0, 1), (0, 1, 1), (2, 1, 0),
    (0, 2, 1), (0, 1, 2, 3), (0, None), (0, [1]), {0: 1},
)


def parts_of(plan):
    """Each part of a plan, with what gives the whole plan with something else in its place."""
    found = [(plan, lambda other: other)]
    if plan[0] == "round":
        word, makes, rows = plan
        for at, (pattern, below) in enumerate(rows):
            for part, put in parts_of(below):
                found.append((part, lambda other, at=at, pattern=pattern, put=put: (
                    word, makes, rows[:at] + ((pattern, put(other)),) + rows[at + 1:]
                )))
    return found


def other_plans(game, part):
    """Parts of the right shape for the place of a part; most of them do not belong there."""
    for number in range(-1, len(game.rows) + 2):
        yield ("found", number)
    if part[0] == "round":
        _, makes, rows = part
        for other in game.rounds + [(), (0, 1, 2, 3), (24,), (-1,), makes[::-1], makes + makes]:
            yield ("round", other, rows)
        for at in range(len(rows)):
            yield ("round", makes, rows[:at] + rows[at + 1:])
            yield ("round", makes, rows[:at + 1] + rows[at:])
            yield ("round", makes, rows[at:] + rows[:at])
            yield rows[at][1]
            for beside in range(len(rows)):
                changed = rows[:at] + ((rows[at][0], rows[beside][1]),) + rows[at + 1:]
                yield ("round", makes, changed)
                yield ("round", makes, rows[:at] + ((rows[beside][0], rows[at][1]),) + rows[at + 1:])
            for m in range(len(makes)):
                pattern = tuple(one != (spot == m) for spot, one in enumerate(rows[at][0]))
                yield ("round", makes, rows[:at] + ((pattern, rows[at][1]),) + rows[at + 1:])
                yield ("round", makes, tuple(sorted(rows + ((pattern, rows[at][1]),))))


def misshapen(part):
    """Things that never stand in the place of a right part."""
    for thing in WRONG_PARTS:
        if thing != part:
            yield thing
    yield list(part)
    yield part + (part,)
    yield part[:-1]
    yield (part,)
    if part[0] == "found":
        yield from (("found", str(part[1])), ("found", [part[1]]), ("Found", part[1]), ("round", part[1]))
        if part[1] < 2:
            yield ("found", part[1] == 1)
    else:
        word, makes, rows = part
        for other in ("found", "rounds", "", None, 0, ("round",), "ask"):
            yield (other, makes, rows)
        for other in (None, 0, "", (), list(rows), dict(rows), [list(row) for row in rows], rows[0], (rows,), rows + (None,)):
            yield (word, makes, other)
        yield (word, list(makes), rows)
        yield (word, makes, rows, rows)
        yield (word, makes)
        for at, row in enumerate(rows):
            for other in misshapen_rows(*row):
                yield (word, makes, rows[:at] + (other,) + rows[at + 1:])


def misshapen_rows(pattern, plan):
    yield from (None, (), "", 0, True, [pattern, plan], (pattern,), (plan,), (pattern, plan, plan), (plan, pattern), (pattern, None))
    yield (tuple(int(one) for one in pattern), plan)
    yield (pattern[:-1] + (int(pattern[-1]),), plan)
    yield ((int(pattern[0]),) + pattern[1:], plan)
    yield (tuple(float(one) for one in pattern), plan)
    for other in (list(pattern), pattern[1:], pattern + (True,), pattern + (False,), (), (pattern,), None, "", True, 0, str(pattern)):
        yield (other, plan)
    for other in (None, "True", [True], (True,), "", 2, -1):
        yield ((other,) + pattern[1:], plan)
        yield (pattern[:-1] + (other,), plan)


def slow_plan(game, left):
    """A plan for candidates left that tests one make after another."""
    for number, row in enumerate(game.rows):
        if set(left) <= set(row):
            return ("found", number)
    for m in plain.indices(game.history):
        if m not in game.skipped and len(plain_patterns(game.history, left, (m,))) > 1:
            return plan_from(game, left, (m,))


def plan_from(game, left, makes):
    """A plan that begins with a round of any makes, right in all else."""
    rows = plain_patterns(game.history, left, makes)
    return ("round", makes, tuple((pattern, slow_plan(game, part)) for pattern, part in rows))


class Plans(unittest.TestCase):
    def test_for_just_so_many_rounds(self):
        for game in games():
            asked = game.history, game.skipped, game.w
            plan = round_plan(*asked)
            fewest = fewest_rounds(*asked)
            self.assertEqual(rounds_of(plan), fewest)
            self.assertTrue(game.holds(game.all(), fewest, plan), plan)
            for r in range(41):
                self.assertIs(judge_rounds(*asked, r, plan), r >= fewest)

    def test_rounds_of(self):
        found = ("found", 0)
        one = ("round", (0,), (((False,), ("found", 1)), ((True,), found)))
        two = ("round", (1,), (((False,), found), ((True,), one)))
        other = ("round", (1,), (((False,), one), ((True,), found)))
        self.assertEqual([rounds_of(plan) for plan in (found, one, two, other)], [0, 1, 2, 2])
        self.assertEqual(rounds_of(("round", (0, 1), (((False, False), found), ((False, True), two), ((True, True), one)))), 3)
        plan = found
        for rounds in range(1, 101):
            plan = ("round", (2,), (((True,), plan),))
            self.assertEqual(rounds_of(plan), rounds)

    def test_too_great(self):
        for w in (1, 2, 3):
            for history in (plain.chain(10), plain.fan(10)):
                plan = round_plan(history, (), w)
                self.assertIs(judge_rounds(history, (), w, rounds_of(plan), plan), True)
            for n in (11, 24):
                for history in (plain.chain(n), plain.fan(n)):
                    with self.assertRaises(TooGreat):
                        round_plan(history, (), w)
            plan = round_plan(plain.chain(11), (0,), w)
            self.assertIs(judge_rounds(plain.chain(11), (0,), w, rounds_of(plan), plan), True)

    def test_one_class(self):
        for history, skipped in ((plain.chain(1), ()), (plain.chain(1), (0,)), (plain.fan(24), tuple(range(24)))):
            self.assertEqual(round_plan(history, skipped, 2), ("found", 0))


class Judging(unittest.TestCase):
    def some_games(self):
        for history, skipped in (
            (plain.chain(4), ()), (plain.chain(5), (1, 4)), (plain.DIAMOND, ()), (plain.DIAMOND, (1,)), (plain.fan(5), (3,)),
            (plain.SAMPLES[-2], (0, 5)),
        ):
            for w in (1, 2, 3):
                yield PlainRounds(history, skipped, w)

    def test_spoilt_plans(self):
        for game in self.some_games():
            asked = game.history, game.skipped, game.w
            plan = round_plan(*asked)
            for part, put in parts_of(plan):
                for other in other_plans(game, part):
                    spoilt = put(other)
                    for r in (rounds_of(plan) - 1, rounds_of(plan), 40):
                        right = game.holds(game.all(), r, spoilt)
                        self.assertIs(judge_rounds(*asked, r, spoilt), right, (asked, r, spoilt))

    def test_misshapen_plans(self):
        for game in self.some_games():
            asked = game.history, game.skipped, game.w
            plan = round_plan(*asked)
            for part, put in parts_of(plan):
                for other in misshapen(part):
                    self.assertIs(judge_rounds(*asked, 40, put(other)), False, (asked, put(other)))

    def test_wrong_makes(self):
        history = plain.chain(4)
        for w, makes, rows in (
            (1, (1,), (((False,), ("round", (2,), (((False,), ("found", 2)), ((True,), ("found", 1))))), ((True,), ("found", 0)))),
            (3, (0, 1, 2), (
                ((False, False, False), ("found", 3)), ((False, False, True), ("found", 2)),
                ((False, True, True), ("found", 1)), ((True, True, True), ("found", 0)),
            )),
        ):
            self.assertIs(judge_rounds(history, (0,) if w == 1 else (), w, 2, ("round", makes, rows)), True)
            for other in WRONG_MAKES:
                for skipped in ((), (0,)):
                    self.assertIs(judge_rounds(history, skipped, w, 40, ("round", other, rows)), False, other)

    def test_makes_with_the_right_patterns(self):
        for game in self.some_games():
            asked = game.history, game.skipped, game.w
            makes = tuple(plain.indices(game.history))
            rows = plain.subsets(makes, 4) + [row[::-1] for row in plain.subsets(makes, 3)]
            rows += [row + row[-1:] for row in plain.subsets(makes, 2)[1:]] + [row[:1] + row for row in plain.subsets(makes, 2)[1:]]
            for row in rows:
                plan = plan_from(game, makes, row)
                self.assertIs(judge_rounds(*asked, 40, plan), row in game.rounds, (asked, plan))
                self.assertIs(judge_rounds(*asked, rounds_of(plan), plan), row in game.rounds)
                self.assertIs(judge_rounds(*asked, rounds_of(plan) - 1, plan), False)

    def test_makes_that_there_are_not(self):
        for n in (1, 2, 4, 24):
            history = plain.chain(n)
            for m in (n, n + 1, -1, -n, -n - 1):
                for pattern in ((True,), (False,)):
                    plan = ("round", (m,), ((pattern, ("found", 0)),))
                    self.assertIs(judge_rounds(history, (), 1, 3, plan), False)
                    self.assertIs(judge_rounds(history, tuple(range(n)), 3, 3, plan), False)
            rows = (((True, True), ("found", 0)),)
            self.assertIs(judge_rounds(history, tuple(range(n - 1)), 3, 3, ("round", (n - 1, n), rows)), False)
            self.assertIs(judge_rounds(history, tuple(range(n - 1)), 3, 3, ("round", (-1, n - 1), rows)), False)

    def test_more_makes_than_w(self):
        history = plain.chain(4)
        for w in (1, 2, 3):
            makes = (0, 1, 2)[:w]
            plan = round_plan(history, (), w)
            self.assertEqual(len(plan[1]), w)
            for other in range(1, 4):
                self.assertIs(judge_rounds(history, (), other, 3, plan), other >= w, makes)

    def test_rounds_that_are_not_needed(self):
        # A round whose answers part nothing has one pattern, and counts.
        history = plain.chain(2)
        plan = ("round", (0,), (((False,), ("found", 1)), ((True,), ("found", 0))))
        for rounds in range(1, 41):
            for r in range(41):
                self.assertIs(judge_rounds(history, (), 1, r, plan), r >= rounds)
            plan = ("round", (1,), (((True,), plan),))
        found = ("round", (0, 1), (((False, True), ("found", 1)), ((True, True), ("round", (0,), (((True,), ("found", 0)),)))))
        self.assertIs(judge_rounds(history, (), 2, 2, found), True)
        self.assertIs(judge_rounds(history, (), 2, 1, found), False)
        self.assertIs(judge_rounds(history, (), 1, 2, found), False)

    def test_patterns_that_nobody_gives(self):
        history = plain.chain(2)
        for rows in (
            (((False,), ("found", 0)), ((True,), ("found", 0))), (((True,), ("found", 0)),),
            (((False,), ("found", 1)), ((True,), ("found", 0)), ((True,), ("found", 0))),
        ):
            self.assertIs(judge_rounds(history, (), 1, 3, ("round", (0,), rows)), False)
            self.assertIs(judge_rounds(history, (), 1, 3, ("round", (1,), rows)), False)

    def test_skipped_makes(self):
        history = plain.chain(3)
        plan = ("round", (1,), (((False,), ("found", 1)), ((True,), ("found", 0))))
        self.assertIs(judge_rounds(history, (0,), 1, 1, plan), True)
        self.assertIs(judge_rounds(history, (0, 2), 1, 1, plan), True)
        self.assertIs(judge_rounds(history, (), 1, 1, plan), False)
        self.assertIs(judge_rounds(history, (1,), 1, 1, plan), False)
        self.assertIs(judge_rounds(history, (0, 1), 1, 1, plan), False)

    def test_no_rounds(self):
        for history, skipped in ((plain.chain(1), ()), (plain.chain(3), (0, 1, 2)), (plain.chain(3), (0, 1))):
            for r in (0, 1, 40):
                self.assertIs(judge_rounds(history, skipped, 1, r, ("found", 0)), True)
                self.assertIs(judge_rounds(history, skipped, 1, r, ("found", 1)), False)
                for thing in misshapen(("found", 0)):
                    self.assertIs(judge_rounds(history, skipped, 3, r, thing), False, thing)
        for number in range(-4, 4):
            self.assertIs(judge_rounds(plain.chain(3), (), 3, 40, ("found", number)), False)

    def test_deep_plans_and_great_histories(self):
        plan = ("found", 0)
        for _ in range(100):
            plan = ("round", (0,), (((True,), plan),))
        self.assertIs(judge_rounds(plain.chain(1), (), 1, 40, plan), False)
        history = plain.chain(24)
        self.assertEqual(len(classes(history, ())), 24)
        self.assertIs(judge_rounds(history, (), 3, 40, ("found", 0)), False)
        plan = ("found", 23)
        for m in range(22, -1, -1):
            plan = ("round", (m,), (((False,), plan), ((True,), ("found", m))))
        for r in (22, 23, 40):
            self.assertIs(judge_rounds(history, (), 1, r, plan), r >= 23)


if __name__ == "__main__":
    unittest.main()
