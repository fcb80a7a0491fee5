"""Trees and tables for one-sided false answers, and their judges, which search for nothing (e4)."""

from firstbreak.judge import all_marked, is_forced, is_tree, rows_of
from firstbreak.onesided import taken_one
from firstbreak.search import Search, marked_tests
from firstbreak.trees import least_table, least_tree


def tree_one(history, skipped, state):
    """A tree of the least depth for a state."""
    return least_tree(Search(history, skipped, taken_one), state)


def table_one(history, skipped, state, q):
    """A table for a state and q, None if the state is settled within q tests."""
    return least_table(Search(history, skipped, taken_one), (q, state), has_no_test)


def has_no_test(_, p):
    """Whether no test is left; of weights, the other end of rows, these tables know nothing."""
    return p == 0


def judge_tree_one(history, skipped, state, q, tree):
    """Whether tree, which may be anything, is a tree for a state of at most q asks on a way."""
    return is_tree(taken_one, all_marked(history, skipped), state, q, tree)


def judge_table_one(history, skipped, state, q, table):
    """Whether table, which may be anything, is a table for a state and q."""
    rows = rows_of(state, q, table)
    marked = marked_tests(history, skipped)
    return (q, state) in rows and all([is_forced(taken_one, marked, rows, row) for row in rows])
