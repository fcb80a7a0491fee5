"""What holds over the whole program (c1): what may be anything, errors, many answers, and deep trees and plans."""

import unittest
from itertools import product

import plain
from firstbreak import answers, flaky, flakytree, onesided, standings
from firstbreak.answerer import Answerer
from firstbreak.answers import check_answers, judge_certain
from firstbreak.classes import check_skipped
from firstbreak.costs import cost_of, least_cost
from firstbreak.desk import Desk
from firstbreak.errors import BadAnswer, BadHistory, BadState, BreakError, TooGreat
from firstbreak.histories import check_history
from firstbreak.hunt import Hunt
from firstbreak.judge import judge_table, judge_tree
from firstbreak.likely import sum_of
from firstbreak.log import mended, read_log, replay
from firstbreak.onepapers import judge_table_one, judge_tree_one
from firstbreak.roundplan import judge_rounds, rounds_of
from firstbreak.rounds import patterns
from firstbreak.search import fewest
from firstbreak.treetext import parse_tree, shown_tree
from firstbreak.trees import depth_of, followed
from test_desk import next_number, told

PAIR = plain.chain(2)

LEAVES = (
    None, True, False, 0, 1, -1, 2, 10 ** 30, "", "a", "broken", "works", "found", "nobody", "ask", "round", "history",
    "answer", "take", "skip", (), [],
)
SMALL = LEAVES + tuple((one,) for one in LEAVES) + tuple([one] for one in LEAVES)
PAIRS = tuple((one, other) for one in LEAVES for other in SMALL)
DEEP = ()
for _ in range(100):
    DEEP = (DEEP, None)
ANYTHING = SMALL + PAIRS + tuple(list(pair) for pair in PAIRS[::7]) + (DEEP, [DEEP], ("found", DEEP), (DEEP, DEEP)) + tuple(
    (word, one, other) for word in ("answer", "round", "history", "take", "ask") for one, other in PAIRS[::5]
) + tuple(("ask", one, ("found", 0), ("found", 1)) for one in SMALL) + tuple((pair, pair[::-1]) for pair in PAIRS[::3])


def swapped(thing):
    """A thing with booleans for 0 and 1, and integers for booleans, one at a time; and with lists for tuples."""
    if isinstance(thing, tuple):
        yield list(thing)
        for at, one in enumerate(thing):
            for other in swapped(one):
                yield thing[:at] + (other,) + thing[at + 1:]
    elif isinstance(thing, bool):
        yield int(thing)
    elif thing in (0, 1):
        yield thing == 1


class Anything(unittest.TestCase):
    def judges(self):
        """Judges with something right that they take."""
        tree = ("ask", 0, ("found", 0), ("ask", 1, ("found", 1), ("nobody",)))
        rows = (((False,), ("found", 1)), ((True,), ("found", 0)))
        said = (("works", 0), ("works", 0))
        return (
            (lambda thing: check_skipped(PAIR, thing), (0, 1)), (lambda thing: judge_tree(PAIR, (), (0, 0), 2, thing), tree),
            (lambda thing: judge_tree_one(PAIR, (), (0, 0), 2, thing), tree),
            (lambda thing: judge_table(PAIR, (), (1, 1), 1, thing), ((0, (0, 0)), (1, (1, 1)))),
            (lambda thing: judge_table_one(PAIR, (), (1, 1), 1, thing), ((0, (0, 1)), (1, (1, 1)))),
            (lambda thing: judge_certain(PAIR, said, 1, 1, thing), ((0, (0, 1)),)),
            (lambda thing: judge_rounds(PAIR, (), 1, 1, thing), ("round", (0,), rows)),
        )

    def checks(self):
        """What raises an error for a wrong thing, with right ones."""
        return (
            (check_history, PAIR, BadHistory), (lambda thing: Desk(thing, 0, "all"), PAIR, BadHistory),
            (lambda thing: check_answers(PAIR, thing), (("works", 0), ("broken", 1)), BadAnswer),
            (lambda thing: Desk(PAIR, thing, "all"), 1, BadState), (lambda thing: Desk(PAIR, 0, thing), "all", BadState),
            (lambda thing: replay(PAIR, 0, "all", (("answer", "works", "a"), thing)), ("take", 0), BadAnswer),
        )

    def test_true_and_false_are_no_integers_and_lists_no_tuples(self):
        for judge, right in self.judges():
            self.assertIs(judge(right), True, right)
            for wrong in swapped(right):
                self.assertIs(judge(wrong), False, wrong)
        for check, right, kind in self.checks():
            check(right)
            for wrong in swapped(right):
                with self.assertRaises(kind):
                    check(wrong)

    def test_anything(self):
        right_ones = [right for _, right in self.judges()]
        for judge, right in self.judges():
            for thing in list(ANYTHING) + [one for one in right_ones if one != right]:
                self.assertIn(judge(thing), (True, False))
                before = repr(thing)
                self.assertIsInstance(judge(thing), bool)
                self.assertEqual(repr(thing), before)
        for check, right, kind in self.checks():
            for thing in ANYTHING:
                before = repr(thing)
                try:
                    check(thing)
                except BreakError as error:
                    self.assertIsInstance(error, kind)
                self.assertEqual(repr(thing), before)

    def test_what_is_taken(self):
        # Of all these a judge takes nothing but what is right by the words.
        rows = {repr(row) for row in ((), (0,), (1,), (0, 1))}
        trees = {repr(("ask", 0, ("found", 0), ("found", 1)))}
        for (judge, _), right in zip(self.judges(), (rows, trees, trees, set(), set(), set(), set())):
            self.assertEqual({repr(thing) for thing in ANYTHING if judge(thing)}, right)


class Errors(unittest.TestCase):
    def test_desks_are_as_before(self):
        desk = Desk(plain.DIAMOND, 1, "two")
        for deed in (("answer", "works", "a"), ("answer", "broken", "b"), ("skip", "c"), ("take", 0)):
            desk.do(deed)
        before = told(desk), next_number(desk)
        for thing in ANYTHING + (("take", 0), ("skip", "c"), ("answer", "works", "c"), ("unskip", "a"), ("skip", "e")):
            try:
                desk.do(thing)
            except (BadAnswer, BadState):
                self.assertEqual(told(desk), before[0])
            else:
                desk.undo()
        self.assertEqual((told(desk), next_number(desk)), before)

    def test_hunts_and_answerers_are_as_before(self):
        hunt = Hunt(2)
        for broken in (True, True, False):
            if not hunt.ended():
                hunt.tell(broken)
        before = hunt.left(), hunt.asked(), hunt.found(), hunt.most()
        for call in (hunt.test, lambda: hunt.tell(True), lambda: hunt.tell(False)):
            with self.assertRaises(BadState):
                call()
            self.assertEqual((hunt.left(), hunt.asked(), hunt.found(), hunt.most()), before)
        answerer = Answerer(plain.DIAMOND, (1,), (1, 1, 1))
        answerer.test(0)
        before = answerer.state(), answerer.answers(), answerer.needed()
        with self.assertRaises(BadState):
            answerer.test(1)
        self.assertEqual((answerer.state(), answerer.answers(), answerer.needed()), before)

    def test_an_error_does_not_change_what_comes_behind(self):
        for _ in range(3):
            for call in (
                lambda: fewest(plain.chain(15), (), 0), lambda: least_cost(plain.chain(11), (), (1,) * 11),
                lambda: parse_tree(PAIR, "ask a\n"), lambda: read_log(PAIR, 0, "all", "x\n"), lambda: Desk(PAIR, 21, "all"),
            ):
                with self.assertRaises((TooGreat, BadHistory, BadAnswer, BadState)):
                    call()
            self.assertEqual(fewest(plain.chain(14), (), 0), 4)
            self.assertEqual(least_cost(plain.chain(10), (), (1,) * 10), 4)
            self.assertEqual(parse_tree(PAIR, "ask a\n  nobody\n  found 3\n"), ("ask", 0, ("nobody",), ("found", 3)))
            self.assertEqual(mended(PAIR, 0, "all", "skip a\nx\n"), (("skip", "a"),))

    def test_objects_of_one_history_keep_to_themselves(self):
        desks = [Desk(plain.DIAMOND, k, rule) for k, rule in product((0, 1), ("all", "two", "one"))]
        desks[0].do(("answer", "works", "a"))
        desks[3].do(("skip", "a"))
        for at, desk in enumerate(desks):
            self.assertEqual(len(desk.log()), at in (0, 3))


class ManyAnswers(unittest.TestCase):
    def test_four_hundred(self):
        for history in (plain.chain(24), plain.fan(24), plain.mixed(24, 4, 6)):
            under = [plain.walk(history, m) for m in range(24)]
            rolls = plain.dice(8)
            truth = next(rolls) % 24
            said = []
            for _ in range(400):
                m = next(rolls) % 24
                broken = (truth in under[m]) != (next(rolls) % 12 == 0)
                said.append(("broken" if broken else "works", m))
            said = tuple(said)
            check_answers(history, said)
            many = [sum((c in under[m]) == (kind == "works") for kind, m in said) for c in range(24)]
            self.assertEqual(answers.contradictions(history, said), tuple(many))
            for k in (0, 20, 50, 400):
                right = tuple(c for c in range(24) if many[c] <= k)
                self.assertEqual(answers.can_be(history, said, k), right)
                self.assertEqual(standings.course(history, said, k)[-1], len(right))
                self.assertEqual(standings.to_take_away(history, said, k), tuple(max(0, one - k) for one in many))
                found = answers.verdict(history, (), said, k)[0]
                self.assertEqual(found, "none" if not right else "one" if len(right) == 1 else "open")
                bad = [c for c in range(24) if any(kind == "broken" and c not in under[m] for kind, m in said)]
                self.assertEqual(onesided.can_be_one(history, said, k), tuple(c for c in right if c not in bad))
            greatest = standings.certain_against(history, said, truth)
            paper = answers.certain_paper(history, said, greatest, truth)
            self.assertIs(judge_certain(history, said, greatest, truth, paper), True)
            self.assertIsNone(answers.certain_paper(history, said, greatest + 1, truth))
            for rule in ("two", "one"):
                right = [flaky.settled(said, m, 20, rule) for m in range(24)]
                left = [
                    c for c in range(24)
                    if all(told in ("", "broken" if c in under[m] else "works") for m, told in enumerate(right))
                ]
                self.assertEqual(flaky.can_be_by_make(history, said, 20, rule), tuple(left))


def tall(asks):
    """A tree for a chain of two that asks the last make again and again, which is broken, ahead of the first one."""
    tree = ("ask", 0, ("found", 0), ("found", 1))
    for _ in range(asks - 1):
        tree = ("ask", 1, tree, ("nobody",))
    return tree


class Deep(unittest.TestCase):
    def test_a_hundred_asks(self):
        for asks in (1, 2, 99, 100):
            tree = tall(asks)
            self.assertEqual(depth_of(tree), asks)
            self.assertEqual([followed(PAIR, tree, c, ()) for c in (0, 1)], [("found", 0), ("found", 1)])
            self.assertEqual(followed(PAIR, tree, 0, (asks - 1,)), ("found", 1))
            for judge in (judge_tree, judge_tree_one):
                self.assertIs(judge(PAIR, (), (0, 0), asks, tree), True)
                self.assertIs(judge(PAIR, (), (0, 0), 200, tree), True)
                self.assertIs(judge(PAIR, (), (0, 0), asks - 1, tree), False)
            self.assertEqual(cost_of(tree, (7, 1000)), 7 + 1000 * (asks - 1))
            self.assertEqual(sum_of(PAIR, tree, (2, 3)), 5 * asks)
            text = shown_tree(PAIR, tree)
            self.assertEqual(text.count("\n"), 2 * asks + 1)
            if asks <= 40:
                self.assertEqual(parse_tree(PAIR, text), tree)
            for rule, each in (("two", 3), ("one", 2)):
                self.assertEqual(flakytree.still_needed(tree, (), 1, rule), each * asks)
                said = flakytree.run(tree, (False, True), (1,), 1, rule)
                self.assertEqual(flakytree.told_class(tree, said, 1, rule), 1)
                self.assertEqual(flakytree.next_make(tree, said, 1, rule), -1)
                self.assertEqual(flakytree.still_needed(tree, said, 1, rule), 0)

    def test_a_hundred_rounds(self):
        for many in (1, 39, 40, 41, 100):
            plan = ("round", (0,), (((False,), ("found", 1)), ((True,), ("found", 0))))
            for _ in range(many - 1):
                plan = ("round", (1,), (((True,), plan),))
            self.assertEqual(rounds_of(plan), many)
            self.assertIs(judge_rounds(PAIR, (), 3, 40, plan), many <= 40)
            if many <= 41:
                self.assertIs(judge_rounds(PAIR, (), 1, many - 1, plan), False)
        self.assertEqual(patterns(PAIR, (0, 1), (1,)), (((True,), (0, 1)),))


if __name__ == "__main__":
    unittest.main()
