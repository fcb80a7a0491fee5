"""Classes of candidates that are alike, and the tests that part them (a3)."""

from firstbreak.histories import ancestors, offspring
from firstbreak.shapes import are_integers, ascends


def check_skipped(history, skipped):
    """Whether skipped, which may be anything, is a tuple of makes, ascending."""
    if not are_integers(skipped) or not ascends(skipped):
        return False
    return all([0 <= m < len(history[1]) for m in skipped])


def classes(history, skipped):
    """The classes of candidates that are alike, by their first candidates."""
    rows = {}
    for c in range(len(history[1])):
        telling = tuple([m for m in offspring(history, c) if m not in skipped])
        rows.setdefault(telling, []).append(c)
    return tuple([tuple(row) for row in rows.values()])


def tests(history, skipped):
    """The makes that can be tested and part the classes, each in another way."""
    # Of two such makes the one behind is not among the ancestors of the other, so all have
    # other classes among theirs; and none but the last make has all of them.
    return tuple([m for m in range(len(history[1]) - 1) if m not in skipped])


def marks(history, skipped, makes):
    """For each of some makes, none of them skipped, which classes are among its ancestors."""
    firsts = [row[0] for row in classes(history, skipped)]
    return tuple([which_are_in(firsts, ancestors(history, m)) for m in makes])


def which_are_in(candidates, row):
    """For each of the candidates whether a row has it."""
    return tuple([c in row for c in candidates])
