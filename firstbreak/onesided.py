"""One-sided false answers: broken is never false, works can be (e1 to e3)."""

from firstbreak.answers import places_against
from firstbreak.classes import marks
from firstbreak.search import Search, check_size
from firstbreak.weights import start, taken


def can_be_one(history, answers, k):
    """The candidates that no answer broken and at most k answers works contradict."""
    return tuple([c for c, places in enumerate(places_against(history, answers)) if allows(answers, places, k)])


def allows(answers, places, k):
    """Whether the answers at some places can all be false."""
    return len(places) <= k and all([answers[place][0] == "works" for place in places])


def after_one(history, skipped, state, answer):
    """The state behind an answer of a make that is not skipped."""
    kind, m = answer
    return taken_one(state, marks(history, skipped, (m,))[0], kind)


def taken_one(state, marked, kind):
    """The state behind an answer of a make that has the marked classes among its ancestors."""
    if kind == "broken":
        return tuple([left if mark else -1 for left, mark in zip(state, marked)])
    return taken(state, marked, kind)


def fewest_one_from(history, skipped, state):
    """The fewest tests that settle a state."""
    check_size(state)
    return Search(history, skipped, taken_one).needed(state)


def fewest_one(history, skipped, k):
    """The fewest tests that settle the first state."""
    return fewest_one_from(history, skipped, start(history, skipped, k))
