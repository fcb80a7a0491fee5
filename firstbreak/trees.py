"""Trees of tests and tables of an answerer, made from a search (s2, s3)."""

from firstbreak.errors import TooGreat
from firstbreak.histories import ancestors
from firstbreak.search import Search, check_size
from firstbreak.weights import inside, is_heavy, taken

MOST_ASKS = 14


def best_tree(history, skipped, state):
    """A tree of the least depth for a state."""
    return least_tree(Search(history, skipped, taken), state)


def least_tree(search, state):
    """A tree of the least depth that a search finds."""
    check_size(state)
    if search.needed(state) > MOST_ASKS:
        raise TooGreat()
    return grown(search, state)


def grown(search, state):
    """The tree of the tests that a search found to be best."""
    found = inside(state)
    if not found:
        return ("nobody",)
    if len(found) == 1:
        return ("found", found[0])
    m, broken, works = search.best_way(state)
    return ("ask", m, grown(search, broken), grown(search, works))


def depth_of(tree):
    """The greatest number of asks on a way through a tree."""
    if tree[0] != "ask":
        return 0
    return 1 + max(depth_of(tree[2]), depth_of(tree[3]))


def followed(history, tree, truth, lies):
    """The end of a tree, its asks answered as with truth, but falsely at those of lies."""
    asked = 0
    while tree[0] == "ask":
        broken = truth in ancestors(history, tree[1])
        if asked in lies:
            broken = not broken
        tree = tree[2] if broken else tree[3]
        asked += 1
    return tree


def table_of(history, skipped, state, q):
    """A table for a state and q, None if the state is settled within q tests."""
    return least_table(Search(history, skipped, taken), (q, state), is_heavy)


def least_table(search, first, is_end):
    """The table from a first row on that a search finds, None if that row is settled within its tests.

    The function is_end tells of a state and its tests whether a row of them needs no rows with a test less."""
    q, state = first
    check_size(state)
    if search.needed(state) <= q:
        return None
    rows = {first: True}
    todo = [first]
    while todo:
        p, state = todo.pop()
        behind = [] if is_end(state, p) else rows_behind(search, state, p)
        for row in behind:
            if row not in rows:
                rows[row] = True
                todo.append(row)
    return tuple(sorted(rows))


def rows_behind(search, state, p):
    """For each useful test of a state that p tests do not settle a row behind it that is like that, too."""
    return [
        (p - 1, broken if search.needed(broken) >= p else works)
        for _, broken, works in search.ways(state)
    ]
