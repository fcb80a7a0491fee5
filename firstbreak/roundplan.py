"""Plans of rounds, and their judge, which searches for nothing (b4)."""

from firstbreak.classes import classes
from firstbreak.rounds import RoundSearch, patterns
from firstbreak.shapes import are_integers, ascends, is_integer


def round_plan(history, skipped, w):
    """A plan that holds for the fewest rounds."""
    search = RoundSearch(history, skipped, w)
    return planned(search, search.firsts)


def planned(search, left):
    """The plan of the rounds that a search found to be best."""
    if len(left) == 1:
        return ("found", search.firsts.index(left[0]))
    makes = search.best(left)[1]
    rows = [(pattern, planned(search, part)) for pattern, part in search.given(left, makes)]
    return ("round", makes, tuple(rows))


def rounds_of(plan):
    """The most rounds on a way through a plan."""
    if plan[0] != "round":
        return 0
    return 1 + max([rounds_of(part) for _, part in plan[2]])


def judge_rounds(history, skipped, w, r, plan):
    """Whether plan, which may be anything, holds for r rounds of up to w makes."""
    return RoundJudge(history, skipped, w).holds(tuple(range(len(history[1]))), r, plan)


class RoundJudge:
    """Looks at plans for a history with skipped makes, and rounds of up to w makes."""

    def __init__(self, history, skipped, w):
        self._history = history
        self._skipped = skipped
        self._most = w
        self._classes = classes(history, skipped)

    def holds(self, left, r, thing):
        """Whether thing is a plan for the candidates left with at most r rounds on a way."""
        if not isinstance(thing, tuple):
            return False
        if len(thing) == 2 and thing[0] == "found":
            return self._is_class_of(left, thing[1])
        if len(thing) != 3 or thing[0] != "round":
            return False
        return r > 0 and self._is_round(thing[1]) and self._rows_hold(left, r - 1, thing[1], thing[2])

    def _is_class_of(self, left, thing):
        """Whether thing is the number of a class that has all candidates left."""
        if not is_integer(thing) or not 0 <= thing < len(self._classes):
            return False
        return all([c in self._classes[thing] for c in left])

    def _is_round(self, thing):
        """Whether thing is a row of makes that can be tested at once."""
        if not are_integers(thing) or not ascends(thing) or not 1 <= len(thing) <= self._most:
            return False
        return all([0 <= m < len(self._history[1]) and m not in self._skipped for m in thing])

    def _rows_hold(self, left, r, makes, thing):
        """Whether thing has for each pattern a plan with at most r rounds on a way."""
        right = patterns(self._history, left, makes)
        if not isinstance(thing, tuple) or len(thing) != len(right):
            return False
        return all([
            is_row_of(pattern, row) and self.holds(part, r, row[1]) for (pattern, part), row in zip(right, thing)
        ])


def is_row_of(pattern, thing):
    """Whether thing is a pair that begins with a pattern."""
    if not isinstance(thing, tuple) or len(thing) != 2 or thing[0] != pattern:
        return False
    # For Python 1 and 0 are equal to True and False.
    return all([isinstance(one, bool) for one in thing[0]])
