"""Trees of tests and tables of an answerer, made from a search (s2, s3)."""

from firstbreak.errors import TooGreat
from firstbreak.histories import ancestors
from firstbreak.search import Search, check_size
from firstbreak.weights import inside, weight

MOST_ASKS = 14


def best_tree(history, skipped, state):
    """A tree of the least depth for a state."""
    check_size(state)
    search = Search(history, skipped)
    if search.needed(state) > MOST_ASKS:
        raise TooGreat()
    return grown(search, state)


def grown(search, state):
    """The tree of the tests that a search found to be best."""
    found = inside(state)
    if not found:
        return ("nobody",)
    if len(found) == 1:
        return ("found", found[0])
    m, broken, works = search.best_way(state)
    return ("ask", m, grown(search, broken), grown(search, works))


def depth_of(tree):
    """The greatest number of asks on a way through a tree."""
    if tree[0] != "ask":
        return 0
    return 1 + max(depth_of(tree[2]), depth_of(tree[3]))


def followed(history, tree, truth, lies):
    """The end of a tree, its asks answered as with truth, but falsely at those of lies."""
    asked = 0
    while tree[0] == "ask":
        broken = truth in ancestors(history, tree[1])
        if asked in lies:
            broken = not broken
        tree = tree[2] if broken else tree[3]
        asked += 1
    return tree


def table_of(history, skipped, state, q):
    """A table for a state and q, None if the state is settled within q tests."""
    check_size(state)
    search = Search(history, skipped)
    if search.needed(state) <= q:
        return None
    rows = {(q, state): True}
    todo = [(q, state)]
    while todo:
        row = todo.pop()
        for other in rows_behind(search, row):
            if other not in rows:
                rows[other] = True
                todo.append(other)
    return tuple(sorted(rows))


def rows_behind(search, row):
    """The rows that a table must have for a row that is not settled within its tests."""
    p, state = row
    # That holds where no test is left, too: two classes are in and weigh more than 1.
    if weight(state, p) > 1 << p:
        return []
    return [
        (p - 1, broken if search.needed(broken) >= p else works)
        for _, broken, works in search.ways(state)
    ]
