"""The fewest tests that tell the class of the make that broke it (w2, w4, s1)."""

from firstbreak.classes import classes, marks, tests
from firstbreak.errors import TooGreat
from firstbreak.weights import inside, start, taken

MOST_STATES = 20000
MOST_CLASSES = 10


def useful(history, skipped, state):
    """The useful tests of a state, ascending."""
    return tuple([m for m, marked in marked_tests(history, skipped) if parts(state, marked)])


def marked_tests(history, skipped):
    """The tests, each with the marks of the classes that are among its ancestors."""
    makes = tests(history, skipped)
    return tuple(zip(makes, marks(history, skipped, makes)))


def parts(state, marked):
    """Whether some but not all of the classes that are in are marked."""
    found = [marked[at] for at in inside(state)]
    return True in found and False in found


def check_size(state):
    """Raise TooGreat if there are too many states with as many classes and as great numbers."""
    each = max([0, *state]) + 2
    size = 1
    for _ in state:
        size *= each
    if size > MOST_STATES:
        raise TooGreat()


def check_classes(history, skipped):
    """Raise TooGreat if there are too many classes for a search through all rows of them."""
    if len(classes(history, skipped)) > MOST_CLASSES:
        raise TooGreat()


def fewest_from(history, skipped, state):
    """The fewest tests that settle a state."""
    check_size(state)
    return Search(history, skipped, taken).needed(state)


def fewest(history, skipped, k):
    """The fewest tests that settle the first state."""
    return fewest_from(history, skipped, start(history, skipped, k))


class Search:
    """The states of a history with skipped makes, each worked out once.

    The function step tells the state behind an answer, as taken does."""

    def __init__(self, history, skipped, step):
        self.marked = marked_tests(history, skipped)
        self.step = step
        self.known = {}

    def needed(self, state):
        """The fewest tests that settle a state."""
        return self.best(state)[0]

    def best(self, state):
        """The fewest tests that settle a state, and the first of them, -1 if it is settled."""
        if state not in self.known:
            found = []
            for m, broken, works in self.ways(state):
                found.append((self.worth(state, m, self.best(broken)[0], self.best(works)[0]), m))
            # No test is useful just where the state is settled.
            self.known[state] = min(found, default=(0, -1))
        return self.known[state]

    def worth(self, state, m, broken, works):
        """How many tests a state takes with make m first, by those behind both answers.

        A search that counts something else than tests has another such method."""
        return 1 + max(broken, works)

    def ways(self, state):
        """The useful tests of a state, each with the states behind broken and works."""
        step = self.step
        return [
            (m, step(state, marked, "broken"), step(state, marked, "works"))
            for m, marked in self.marked if parts(state, marked)
        ]

    def best_way(self, state):
        """The first of the fewest tests of a state that is not settled, as ways has it."""
        m = self.best(state)[1]
        return [way for way in self.ways(state) if way[0] == m][0]
