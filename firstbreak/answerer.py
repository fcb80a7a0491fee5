"""An answerer that makes whoever tests need the most tests (n1, n2)."""

from firstbreak.answers import is_against
from firstbreak.classes import marks
from firstbreak.errors import BadState
from firstbreak.search import Search, check_size
from firstbreak.weights import inside, taken


class Answerer:
    """One who answers tests by a state, so that the most tests are left."""

    def __init__(self, history, skipped, state):
        check_size(state)
        self._history = history
        self._skipped = skipped
        self._search = Search(history, skipped, taken)
        # The state at first and behind each answer, for undo.
        self._states = [state]
        self._answers = []

    def test(self, m):
        """The answer to the test of make m."""
        if m in self._skipped:
            raise BadState()
        marked = marks(self._history, self._skipped, (m,))[0]
        # Of two of the same rank min takes the first.
        kind = min(["broken", "works"], key=lambda one: self._rank(marked, one))
        self._states.append(taken(self.state(), marked, kind))
        self._answers.append((kind, m))
        return kind

    def _rank(self, marked, kind):
        """What tells which answer is to be given: the least one."""
        state = self.state()
        against = [at for at in inside(state) if is_against(kind, marked[at])]
        return (-self._search.needed(taken(state, marked, kind)), len(against))

    def state(self):
        """The state behind the answers so far."""
        return self._states[-1]

    def answers(self):
        """All answers so far."""
        return tuple(self._answers)

    def needed(self):
        """The fewest tests of the state."""
        return self._search.needed(self.state())

    def undo(self):
        """Take the last answer back."""
        if not self._answers:
            raise BadState()
        self._answers.pop()
        self._states.pop()
