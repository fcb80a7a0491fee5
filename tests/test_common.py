"""What holds for all functions (c1): the kinds of values, and that nothing handed in is changed."""

import unittest
from copy import deepcopy

import plain
from firstbreak import answers, classes, histories, judge, search, text, trees, weights
from firstbreak.errors import BreakError

HISTORY = plain.history_of((), (0,), (0,), (1, 2))
SKIPPED = (1,)
STATE = (1, 0, 1)
ANSWERS = (("works", 0), ("broken", 2), ("broken", 3), ("works", 0), ("broken", 2))
TREE = ("ask", 0, ("found", 0), ("ask", 2, ("nobody",), ("found", 1)))

CALLS = (
    (histories.check_history, HISTORY), (histories.ancestors, HISTORY, 3), (histories.offspring, HISTORY, 1),
    (text.parse, "make a\nmake b from a"), (text.shown, HISTORY), (classes.check_skipped, HISTORY, SKIPPED),
    (classes.classes, HISTORY, SKIPPED), (classes.tests, HISTORY, SKIPPED), (answers.check_answers, HISTORY, ANSWERS),
    (answers.contradicts, HISTORY, 0, ANSWERS[0]), (answers.contradictions, HISTORY, ANSWERS),
    (answers.can_be, HISTORY, ANSWERS, 1), (answers.verdict, HISTORY, SKIPPED, ANSWERS, 1),
    (answers.certain_paper, HISTORY, ANSWERS, 1, 2), (answers.certain_paper, HISTORY, ANSWERS, 0, 2),
    (answers.judge_certain, HISTORY, ANSWERS, 0, 2, ()), (weights.start, HISTORY, SKIPPED, 2),
    (weights.after, HISTORY, SKIPPED, STATE, ANSWERS[0]), (weights.choices, 5, 2), (weights.weight, STATE, 4),
    (weights.weight_bound, STATE), (search.useful, HISTORY, SKIPPED, STATE), (search.fewest, HISTORY, SKIPPED, 1),
    (search.fewest_from, HISTORY, SKIPPED, STATE), (trees.best_tree, HISTORY, SKIPPED, STATE), (trees.depth_of, TREE),
    (trees.followed, HISTORY, TREE, 2, (0,)), (trees.table_of, HISTORY, SKIPPED, STATE, 2),
    (trees.table_of, HISTORY, SKIPPED, STATE, 20), (judge.judge_tree, HISTORY, SKIPPED, STATE, 4, TREE),
    (judge.judge_table, HISTORY, SKIPPED, STATE, 0, ((0, STATE),)),
)

LISTS = ["history", [["a", [0, True]], {"b": [1]}], [], None, ["ask", 0, ["nobody"], ["found", [0]]]]


class Common(unittest.TestCase):
    def only_told_kinds(self, thing):
        self.assertIn(type(thing), (tuple, str, int, bool, type(None)))
        if isinstance(thing, tuple):
            for one in thing:
                self.only_told_kinds(one)

    def test_kinds_and_same_answers(self):
        for function, *arguments in CALLS:
            first = function(*arguments)
            self.only_told_kinds(first)
            second = function(*deepcopy(arguments))
            self.assertEqual((repr(first), first), (repr(second), second))

    def test_bools_are_bools(self):
        for function, *arguments in CALLS:
            if function.__name__ in ("contradicts", "check_skipped") or function.__name__.startswith("judge"):
                self.assertIsInstance(function(*arguments), bool)

    def test_nothing_handed_in_is_changed(self):
        for thing in (LISTS, tuple(LISTS), ("history", LISTS), (LISTS,), (1, LISTS)):
            before = deepcopy(thing)
            for function in (histories.check_history, lambda other: answers.check_answers(HISTORY, other)):
                with self.assertRaises(BreakError):
                    function(thing)
            self.assertIs(classes.check_skipped(HISTORY, thing), False)
            self.assertIs(answers.judge_certain(HISTORY, ANSWERS, 0, 2, thing), False)
            self.assertIs(judge.judge_tree(HISTORY, SKIPPED, STATE, 9, thing), False)
            self.assertIs(judge.judge_table(HISTORY, SKIPPED, STATE, 9, thing), False)
            self.assertEqual(thing, before)


if __name__ == "__main__":
    unittest.main()
