"""What holds for all functions (c1): the kinds of values, and that nothing handed in is changed."""

import unittest
from copy import deepcopy

import plain
from firstbreak import answers, chains, classes, costs, counts, flaky, flakytree, halving, histories, judge, likely, log
from firstbreak import onepapers, onesided, patches, report, roundplan, rounds, search, standings, text, tools, trees
from firstbreak import treetext, weights
from firstbreak.answerer import Answerer
from firstbreak.desk import Desk
from firstbreak.errors import BreakError
from firstbreak.hunt import Hunt
from test_interface import INTERFACE

HISTORY = plain.history_of((), (0,), (0,), (1, 2))
SKIPPED = (1,)
STATE = (1, 0, 1)
ANSWERS = (("works", 0), ("broken", 2), ("broken", 3), ("works", 0), ("broken", 2))
TREE = ("ask", 0, ("found", 0), ("ask", 2, ("nobody",), ("found", 1)))
LOG = (("answer", "works", "a"), ("answer", "broken", "c"), ("take", 0), ("skip", "b"))
NUMBERS = (5, 1, 1, 700)
PLAN = ("round", (0, 2), (((False, False), ("found", 1)), ((False, True), ("found", 2)), ((True, True), ("found", 0))))


def desk_behind(deeds):
    """A desk for the history of this file."""
    desk = Desk(HISTORY, 1, "all")
    for deed in deeds:
        desk.do(deed)
    return desk


CALLS = (
    (histories.check_history, HISTORY), (histories.ancestors, HISTORY, 3), (histories.offspring, HISTORY, 1),
    (text.parse, "make a\nmake b from a"), (text.shown, HISTORY), (classes.check_skipped, HISTORY, SKIPPED),
    (classes.classes, HISTORY, SKIPPED), (classes.tests, HISTORY, SKIPPED), (answers.check_answers, HISTORY, ANSWERS),
    (answers.contradicts, HISTORY, 0, ANSWERS[0]), (answers.contradictions, HISTORY, ANSWERS),
    (answers.can_be, HISTORY, ANSWERS, 1), (answers.verdict, HISTORY, SKIPPED, ANSWERS, 1),
    (answers.certain_paper, HISTORY, ANSWERS, 1, 2), (answers.certain_paper, HISTORY, ANSWERS, 0, 2),
    (answers.judge_certain, HISTORY, ANSWERS, 0, 2, ()), (weights.start, HISTORY, SKIPPED, 2),
    (weights.after, HISTORY, SKIPPED, STATE, ANSWERS[0]), (weights.choices, 5, 2), (weights.weight, STATE, 4),
    (weights.weight_bound, STATE), (search.useful, HISTORY, SKIPPED, STATE), (search.fewest, HISTORY, SKIPPED, 1),
    (search.fewest_from, HISTORY, SKIPPED, STATE), (trees.best_tree, HISTORY, SKIPPED, STATE), (trees.depth_of, TREE),
    (trees.followed, HISTORY, TREE, 2, (0,)), (trees.table_of, HISTORY, SKIPPED, STATE, 2),
    (trees.table_of, HISTORY, SKIPPED, STATE, 20), (judge.judge_tree, HISTORY, SKIPPED, STATE, 4, TREE),
    (judge.judge_table, HISTORY, SKIPPED, STATE, 0, ((0, STATE),)),
    (halving.parts_by, HISTORY, (0, 2, 3), 1), (halving.even_test, HISTORY, (0, 2, 3)),
    (halving.even_most, HISTORY, (0, 2, 3)), (halving.even_tree, HISTORY), (halving.has_two, HISTORY),
    (halving.two_bound, 9), (tools.between, HISTORY, (3,), (1,)), (tools.merges, HISTORY), (tools.sides, HISTORY, 3),
    (tools.main_line, HISTORY), (tools.reduced, HISTORY), (tools.up_to, HISTORY, 2), (tools.ways, HISTORY, 0),
    (tools.gates, HISTORY, 0), (tools.to_blame, HISTORY, ANSWERS), (counts.counts_after, (3, 2), (1, 1), False),
    (counts.counts_weight, (3, 2), 4), (counts.fewest_counts, 3, 1), (patches.fewest_patches, 9),
    (patches.next_numbers, 3, 4), (onesided.can_be_one, HISTORY, ANSWERS, 1),
    (onesided.after_one, HISTORY, SKIPPED, STATE, ANSWERS[1]), (onesided.fewest_one_from, HISTORY, SKIPPED, STATE),
    (onesided.fewest_one, HISTORY, SKIPPED, 1), (onepapers.tree_one, HISTORY, SKIPPED, STATE),
    (onepapers.table_one, HISTORY, SKIPPED, STATE, 1), (onepapers.table_one, HISTORY, SKIPPED, STATE, 20),
    (onepapers.judge_tree_one, HISTORY, SKIPPED, STATE, 4, TREE),
    (onepapers.judge_table_one, HISTORY, SKIPPED, STATE, 0, ((0, STATE),)), (flaky.counts_of, ANSWERS, 0),
    (flaky.settled, ANSWERS, 0, 1, "two"), (flaky.can_be_by_make, HISTORY, ANSWERS, 1, "one"),
    (flaky.fewest_by_make, HISTORY, SKIPPED, 1, "two"), (flaky.held_back, ANSWERS, 3, 1, "two"),
    (flakytree.next_make, TREE, ANSWERS, 1, "two"), (flakytree.told_class, TREE, ANSWERS, 1, "one"),
    (flakytree.still_needed, TREE, ANSWERS, 1, "two"),
    (flakytree.run, TREE, (False, True, True, True), (0, 1), 1, "two"), (log.write_log, LOG),
    (log.read_log, HISTORY, 0, "all", log.write_log(LOG)), (log.mended, HISTORY, 0, "two", log.write_log(LOG) + "x"),
    (report.report, desk_behind(LOG)), (report.short, desk_behind(LOG)),
    (report.changed, desk_behind(LOG), desk_behind(LOG[:2])), (rounds.patterns, HISTORY, (0, 1, 3), (0, 2)),
    (rounds.fewest_rounds, HISTORY, SKIPPED, 2), (rounds.is_chain, HISTORY), (rounds.chain_rounds, 100, 3),
    (roundplan.round_plan, HISTORY, SKIPPED, 2), (roundplan.rounds_of, PLAN),
    (roundplan.judge_rounds, HISTORY, SKIPPED, 2, 1, PLAN), (roundplan.judge_rounds, HISTORY, SKIPPED, 1, 3, PLAN),
    (costs.least_cost, HISTORY, SKIPPED, NUMBERS), (costs.cost_tree, HISTORY, SKIPPED, NUMBERS),
    (costs.cost_of, TREE, NUMBERS), (likely.least_sum, HISTORY, SKIPPED, NUMBERS),
    (likely.sum_tree, HISTORY, SKIPPED, NUMBERS), (likely.sum_of, HISTORY, TREE, NUMBERS),
    (likely.huffman_sum, NUMBERS), (likely.class_likely, HISTORY, SKIPPED, NUMBERS), (chains.chain_sum, NUMBERS),
    (chains.chain_tree, NUMBERS), (treetext.shown_tree, HISTORY, TREE),
    (treetext.parse_tree, HISTORY, treetext.shown_tree(HISTORY, TREE)), (standings.spares, HISTORY, ANSWERS, 1),
    (standings.ranking, HISTORY, ANSWERS), (standings.certain_against, HISTORY, ANSWERS, 2),
    (standings.rivals, HISTORY, ANSWERS, 2), (standings.tellings, HISTORY, (0, 2, 3)),
    (standings.course, HISTORY, ANSWERS, 1), (standings.decisive, HISTORY, ANSWERS, 1),
    (standings.to_take_away, HISTORY, ANSWERS, 0), (standings.standings_text, HISTORY, ANSWERS, 1),
)
BOOLS = ("contradicts", "check_skipped", "has_two", "is_chain")

LISTS = ["history", [["a", [0, True]], {"b": [1]}], [], None, ["ask", 0, ["nobody"], ["found", [0]]]]


class Common(unittest.TestCase):
    def only_told_kinds(self, thing):
        self.assertIn(type(thing), (tuple, str, int, bool, type(None)))
        if isinstance(thing, tuple):
            for one in thing:
                self.only_told_kinds(one)

    def test_kinds_and_same_answers(self):
        for function, *arguments in CALLS:
            first = function(*arguments)
            self.only_told_kinds(first)
            second = function(*deepcopy(arguments))
            self.assertEqual((repr(first), first), (repr(second), second))

    def test_same_answers_in_another_order(self):
        first = [repr(function(*arguments)) for function, *arguments in CALLS]
        second = [repr(function(*arguments)) for function, *arguments in CALLS[::-1]]
        self.assertEqual(first, second[::-1])
        for step in (7, 11):
            for at in range(step):
                for (function, *arguments), right in list(zip(CALLS, first))[at::step]:
                    self.assertEqual(repr(function(*arguments)), right)

    def test_each_function_of_the_interface_is_called(self):
        called = {(function.__module__.partition(".")[2], function.__name__) for function, *_ in CALLS}
        # Of a desk nothing but more calls would tell that it is the same; test_log has these.
        called.add(("log", "replay"))
        self.assertEqual(called, {(name, title) for name, rows in INTERFACE.items() for title in rows})

    def test_bools_are_bools(self):
        for function, *arguments in CALLS:
            if function.__name__ in BOOLS or function.__name__.startswith("judge"):
                self.assertIsInstance(function(*arguments), bool)

    def test_kinds_of_what_objects_tell(self):
        hunt = Hunt(5)
        answerer = Answerer(HISTORY, SKIPPED, STATE)
        self.only_told_kinds((hunt.tell(True), answerer.test(0)))
        self.only_told_kinds((hunt.test(), hunt.left(), hunt.ended(), hunt.found(), hunt.asked(), hunt.most()))
        self.assertIsInstance(hunt.ended(), bool)
        self.only_told_kinds((answerer.state(), answerer.answers(), answerer.needed()))
        for desk in (desk_behind(()), desk_behind(LOG), log.replay(HISTORY, 0, "one", LOG)):
            self.only_told_kinds((desk.history(), desk.rule(), desk.log(), desk.answers(), desk.numbers()))
            self.only_told_kinds((desk.skipped(), desk.can_be(), desk.state(), desk.evenest()))

    def test_nothing_handed_in_is_changed(self):
        for thing in (LISTS, tuple(LISTS), ("history", LISTS), (LISTS,), (1, LISTS)):
            before = deepcopy(thing)
            for function in (
                histories.check_history, lambda other: answers.check_answers(HISTORY, other), desk_behind(LOG).do,
                lambda other: log.replay(HISTORY, 1, "all", (other,)), lambda other: Desk(other, 0, "all"),
                lambda other: Desk(HISTORY, other, "all"), lambda other: Desk(HISTORY, 0, other),
            ):
                with self.assertRaises(BreakError):
                    function(thing)
            self.assertIs(classes.check_skipped(HISTORY, thing), False)
            self.assertIs(answers.judge_certain(HISTORY, ANSWERS, 0, 2, thing), False)
            self.assertIs(judge.judge_tree(HISTORY, SKIPPED, STATE, 9, thing), False)
            self.assertIs(judge.judge_table(HISTORY, SKIPPED, STATE, 9, thing), False)
            self.assertIs(onepapers.judge_tree_one(HISTORY, SKIPPED, STATE, 9, thing), False)
            self.assertIs(onepapers.judge_table_one(HISTORY, SKIPPED, STATE, 9, thing), False)
            self.assertIs(roundplan.judge_rounds(HISTORY, SKIPPED, 3, 40, thing), False)
            self.assertEqual(thing, before)


if __name__ == "__main__":
    unittest.main()
