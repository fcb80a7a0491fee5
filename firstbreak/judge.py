"""Judges of trees and tables, which search for nothing (s2, s3)."""

from firstbreak.classes import marks
from firstbreak.search import marked_tests, parts
from firstbreak.shapes import ascends, are_integers, is_integer
from firstbreak.weights import inside, is_heavy, taken

GREATEST = 20


def judge_tree(history, skipped, state, q, tree):
    """Whether tree, which may be anything, is a tree for a state of at most q asks on a way."""
    return is_tree(taken, all_marked(history, skipped), state, q, tree)


def all_marked(history, skipped):
    """The makes that can be tested, with their marks."""
    makes = [m for m in range(len(history[1])) if m not in skipped]
    return dict(zip(makes, marks(history, skipped, makes)))


def is_tree(step, marked, state, q, thing):
    """Whether thing is a tree; step tells the state behind an answer, as taken does."""
    if not isinstance(thing, tuple):
        return False
    if len(thing) == 4 and thing[0] == "ask":
        return is_ask(step, marked, state, q, thing)
    if len(thing) == 2 and thing[0] == "found":
        return is_integer(thing[1]) and inside(state) == (thing[1],)
    return thing == ("nobody",) and not inside(state)


def is_ask(step, marked, state, q, thing):
    """Whether four things, ask ahead of them, are a tree."""
    _, m, broken, works = thing
    if q < 1 or not is_integer(m) or m not in marked:
        return False
    if not is_tree(step, marked, step(state, marked[m], "broken"), q - 1, broken):
        return False
    return is_tree(step, marked, step(state, marked[m], "works"), q - 1, works)


def judge_table(history, skipped, state, q, table):
    """Whether table, which may be anything, is a table for a state and q."""
    rows = rows_of(state, q, table)
    marked = marked_tests(history, skipped)
    return (q, state) in rows and all([
        is_heavy(other, p) or is_forced(taken, marked, rows, (p, other)) for p, other in rows
    ])


def rows_of(state, q, table):
    """The rows of a table that may be anything, none if it has not the shape of one."""
    if not isinstance(table, tuple) or not all([is_row(len(state), q, row) for row in table]):
        return {}
    return {row: True for row in table} if ascends(table) else {}


def is_row(many, q, thing):
    """Whether thing has the shape of a row for so many classes."""
    if not isinstance(thing, tuple) or len(thing) != 2:
        return False
    p, other = thing
    if not is_integer(p) or not 0 <= p <= q:
        return False
    return are_integers(other) and len(other) == many and all([-1 <= left <= GREATEST for left in other])


def is_forced(step, marked, rows, row):
    """Whether a row shows, by rows with a test less, that its tests do not settle it."""
    p, other = row
    if len(inside(other)) < 2:
        return False
    # With no test left it is enough that two classes are in.
    return p == 0 or all([
        (p - 1, step(other, one, "broken")) in rows or (p - 1, step(other, one, "works")) in rows
        for _, one in marked if parts(other, one)
    ])
