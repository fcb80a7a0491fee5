"""Rounds of makes that are tested at once, no answer being false (b1 to b3)."""

from itertools import combinations

from firstbreak.classes import classes, tests
from firstbreak.histories import ancestors
from firstbreak.search import check_classes


def patterns(history, left, makes):
    """The patterns that the candidates left give in a round, each with those that give it."""
    return parted(left, [ancestors(history, m) for m in makes])


def parted(left, under):
    """The patterns of candidates left, by the ancestors of each make of a round."""
    rows = {}
    for c in left:
        rows.setdefault(tuple([c in row for row in under]), []).append(c)
    return tuple([(pattern, tuple(row)) for pattern, row in sorted(rows.items())])


def fewest_rounds(history, skipped, w):
    """The fewest rounds of up to w makes that tell the class of the make that broke it."""
    search = RoundSearch(history, skipped, w)
    return search.best(search.firsts)[0]


def is_chain(history):
    """Whether each make has just the make ahead of it as parent, and the first none."""
    return all([parents == (() if m == 0 else (m - 1,)) for m, (_, parents) in enumerate(history[1])])


def chain_rounds(n, w):
    """The fewest rounds of up to w makes for a chain of n makes."""
    rounds = 0
    reach = 1
    while reach < n:
        reach *= w + 1
        rounds += 1
    return rounds


class RoundSearch:
    """The rounds for each row of candidates left, worked out once.

    Each class stands there with its first candidate."""

    def __init__(self, history, skipped, w):
        check_classes(history, skipped)
        self.firsts = tuple([row[0] for row in classes(history, skipped)])
        self.under = {m: ancestors(history, m) for m in tests(history, skipped)}
        self.width = w
        self.known = {}

    def best(self, left):
        """The fewest rounds for at least one candidate left, and the makes of the first round."""
        if len(left) == 1:
            return (0, ())
        if left not in self.known:
            found = []
            for makes in full_rounds(self.telling(left), self.width):
                found.append((1 + max([self.best(part)[0] for _, part in self.given(left, makes)]), makes))
            self.known[left] = min(found)
        return self.known[left]

    def telling(self, left):
        """The makes that part the candidates left."""
        return [m for m in self.under if len(self.given(left, (m,))) > 1]

    def given(self, left, makes):
        """The patterns that candidates left give, each with those that give it."""
        return parted(left, [self.under[m] for m in makes])


def full_rounds(makes, w):
    """The rounds of just w of some makes, or of all of them if they are fewer.

    One make more parts what is left further, and less that is left never needs more rounds: smaller rounds are no
    better."""
    return list(combinations(makes, w)) or [tuple(makes)]
