"""The definitions of the document, written out plainly, for tests to compare with."""

from itertools import combinations

NAMES = "abcdefghijklmnopqrstuvwx"


def history_of(*parents):
    """The history whose makes, called a, b, c .., have these parents."""
    return ("history", tuple((NAMES[at], tuple(row)) for at, row in enumerate(parents)))


def chain(n):
    return history_of(*[(at - 1,) if at else () for at in range(n)])


def fan(n):
    """A history of n makes: as many as can be without parents, behind them merges of up to four."""
    roots = max(many for many in range(1, n + 1) if many + -(-(many - 1) // 3) <= n)
    rows = [()] * roots
    ends = list(range(roots))
    while len(rows) < n:
        rows.append(tuple(ends[:4]))
        ends = ends[4:] + [len(rows) - 1]
    return history_of(*rows)


def dice(seed):
    """Numbers that look like chance, always the same ones for a seed."""
    while True:
        seed = (seed * 1103515245 + 12345) % 2 ** 31
        yield seed >> 8


def mixed(n, most, seed):
    """A history of n makes with at most so many parents each, as dice fall."""
    rolls = dice(seed)
    rows, ends = [], []
    for at in range(n):
        # As many ends must be taken here as the makes behind cannot bring together.
        must = max(0, len(ends) - (n - 1 - at) * (most - 1))
        parents = set(ends[:must])
        for _ in range(next(rolls) % (most + 1 - must)):
            if at:
                parents.add(next(rolls) % at)
        rows.append(tuple(sorted(parents)))
        ends = [end for end in ends if end not in parents] + [at]
    return history_of(*rows)


def walk(history, m):
    """The ancestors of a make, as a set."""
    found = {m}
    for parent in history[1][m][1]:
        found |= walk(history, parent)
    return found


def subsets(things, most=None):
    most = len(things) if most is None else most
    return [row for many in range(most + 1) for row in combinations(things, many)]


def all_histories(n):
    """All histories of n makes, but for their names."""
    rows = [()]
    for at in range(n):
        rows = [row + (parents,) for row in rows for parents in subsets(range(at), 4)]
    found = [history_of(*row) for row in rows]
    return [history for history in found if len(walk(history, n - 1)) == n]


SMALL = [history for n in range(1, 5) for history in all_histories(n)]

DIAMOND = history_of((), (0,), (0,), (1, 2))

SAMPLES = SMALL + [
    chain(5),
    history_of((), (), (), (), (0, 1, 2, 3)),
    history_of((), (), (0, 1), (0, 1), (2, 3)),
    history_of((), (0,), (0,), (1, 2), (3,), (3,), (4, 5)),
    history_of((), (), (0,), (0, 1), (1,), (2, 3), (3, 4), (5, 6)),
]


def indices(history):
    return range(len(history[1]))


def plain_classes(history, skipped):
    """The classes by comparing each two candidates."""
    tested = [m for m in indices(history) if m not in skipped]
    rows = []
    for c in indices(history):
        for row in rows:
            if all((c in walk(history, m)) == (row[0] in walk(history, m)) for m in tested):
                row.append(c)
                break
        else:
            rows.append([c])
    return tuple(tuple(row) for row in rows)


def plain_tests(history, skipped):
    """The tests by the words of the interface."""
    rows = plain_classes(history, skipped)
    found = {}
    for m in indices(history):
        inside = tuple(at for at, row in enumerate(rows) if row[0] in walk(history, m))
        if m not in skipped and 0 < len(inside) < len(rows) and inside not in found.values():
            found[m] = inside
    return tuple(found)


def plain_contradicts(history, c, answer):
    if answer[0] == "broken":
        return c not in walk(history, answer[1])
    return c in walk(history, answer[1])


def all_answers(history, skipped=()):
    return [(kind, m) for m in indices(history) if m not in skipped for kind in ("broken", "works")]


class Plain:
    """States, trees and tables of a history with skipped makes, by the words of the document."""

    def __init__(self, history, skipped=()):
        self.history = history
        self.skipped = skipped
        self.rows = plain_classes(history, skipped)
        self.makes = [m for m in indices(history) if m not in skipped]
        self.hit = {
            answer: [plain_contradicts(history, row[0], answer) for row in self.rows]
            for answer in all_answers(history, skipped)
        }
        self.tests = plain_tests(history, skipped)
        self.known = {}

    def start(self, k):
        return tuple(k for _ in self.rows)

    def after(self, state, answer):
        return tuple(
            left - 1 if hit and left != -1 else left for left, hit in zip(state, self.hit[answer])
        )

    def behind(self, state, m):
        return self.after(state, ("broken", m)), self.after(state, ("works", m))

    def inside(self, state):
        return [at for at, left in enumerate(state) if left != -1]

    def within(self, state, q):
        """Whether a state is settled within q tests (w2), with all tests."""
        if len(self.inside(state)) <= 1:
            return True
        if q < 1:
            return False
        if (state, q) not in self.known:
            self.known[state, q] = any(
                all(self.within(other, q - 1) for other in self.behind(state, m)) for m in self.makes
            )
        return self.known[state, q]

    def fewest(self, state):
        q = 0
        while not self.within(state, q):
            q += 1
        return q

    def useful(self, state):
        """The useful tests of a state (w4)."""
        found = []
        for m in self.tests:
            hits = [self.hit["works", m][at] for at in self.inside(state)]
            if any(hits) and not all(hits):
                found.append(m)
        return tuple(found)

    def weight(self, state, q):
        return sum(sum(pascal(q)[:left + 1]) for left in state if left >= 0)

    def depth(self, state, tree):
        """The depth of a tree for a state, None if it is none."""
        inside = self.inside(state)
        if tree[0] == "ask":
            _, m, *parts = tree
            if m not in self.makes:
                return None
            depths = [self.depth(other, part) for other, part in zip(self.behind(state, m), parts)]
            return None if None in depths else 1 + max(depths)
        right = ("found", inside[0]) if len(inside) == 1 else ("nobody",)
        return 0 if len(inside) < 2 and tree == right else None

    def row_holds(self, rows, p, other):
        if self.weight(other, p) > 2 ** p:
            return True
        if len(self.inside(other)) < 2:
            return False
        return p == 0 or all(
            any((p - 1, behind) in rows for behind in self.behind(other, m)) for m in self.useful(other)
        )

    def is_table(self, state, q, rows):
        """Whether rows of the right shape are a table (s3)."""
        if list(rows) != sorted(set(rows)) or (q, state) not in rows:
            return False
        return all(self.row_holds(set(rows), p, other) for p, other in rows)


class PlainOne(Plain):
    """The same with one-sided false answers."""

    def after(self, state, answer):
        if answer[0] == "broken":
            return tuple(-1 if hit else left for left, hit in zip(state, self.hit[answer]))
        return super().after(state, answer)

    def row_holds(self, rows, p, other):
        return len(self.inside(other)) > 1 and (p == 0 or all(
            any((p - 1, behind) in rows for behind in self.behind(other, m)) for m in self.useful(other)
        ))


TRIANGLE = [[1]]


def pascal(q):
    """Row q of Pascal's triangle."""
    while len(TRIANGLE) <= q:
        last = TRIANGLE[-1]
        TRIANGLE.append([1] + [low + high for low, high in zip(last, last[1:])] + [1])
    return TRIANGLE[q]
