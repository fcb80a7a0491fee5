"""A desk for answers that come in any order, are taken away, and makes that are skipped (k1 to k3)."""

from firstbreak.answers import are_alike, can_be
from firstbreak.deeds import EMPTY, behind, is_deed
from firstbreak.errors import BadAnswer, BadState
from firstbreak.flaky import can_be_by_make
from firstbreak.halving import parts_by
from firstbreak.histories import check_history
from firstbreak.shapes import is_integer

MOST_FALSE = 20
MOST_DEEDS = 2000


class Desk:
    """The answers about a history, some of them false as a bound and a rule let them be."""

    def __init__(self, history, k, rule):
        check_history(history)
        if not is_integer(k) or not 0 <= k <= MOST_FALSE or rule not in ("all", "two", "one"):
            raise BadState()
        self._history = history
        self._k = k
        self._rule = rule
        self._deeds = []
        # What was on the desk at first and behind each deed, for undo.
        self._moments = [EMPTY]

    def history(self):
        """The history."""
        return self._history

    def rule(self):
        """The bound and the rule."""
        return self._k, self._rule

    def do(self, deed):
        """Do a deed, which may be anything."""
        if not is_deed(deed):
            raise BadAnswer(0)
        if len(self._deeds) >= MOST_DEEDS:
            raise BadState()
        self._moments.append(behind(self._history, self._moments[-1], deed))
        self._deeds.append(deed)

    def undo(self):
        """Take the last deed that is left back."""
        if not self._deeds:
            raise BadState()
        self._deeds.pop()
        self._moments.pop()

    def log(self):
        """The deeds that were done and not undone."""
        return tuple(self._deeds)

    def answers(self):
        """The answers that are there."""
        return tuple([answer for _, answer in self._moments[-1][0]])

    def numbers(self):
        """The numbers of the answers that are there."""
        return tuple([number for number, _ in self._moments[-1][0]])

    def skipped(self):
        """The makes that are skipped now."""
        return self._moments[-1][1]

    def can_be(self):
        """The names of the candidates that can be it."""
        return tuple([self._history[1][c][0] for c in self._left()])

    def state(self):
        """Whether the break is certain, the answers clash, or it is open."""
        left = self._left()
        if not left:
            return "clash"
        return "certain" if are_alike(self._history, self.skipped(), left) else "open"

    def evenest(self):
        """The name of the evenest test, "" if no test parts those that can be it."""
        left = self._left()
        found = []
        for m in range(len(self._history[1])):
            sizes = [len(part) for part in parts_by(self._history, left, m)]
            if m not in self.skipped() and min(sizes) > 0:
                found.append((max(sizes), m))
        return self._history[1][min(found)[1]][0] if found else ""

    def _left(self):
        """The candidates that can be it."""
        if self._rule == "all":
            return can_be(self._history, self.answers(), self._k)
        return can_be_by_make(self._history, self.answers(), self._k, self._rule)
