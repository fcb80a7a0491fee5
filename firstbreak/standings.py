"""How the candidates stand by the answers (x3, x4)."""

from firstbreak.answers import contradictions, places_against
from firstbreak.halving import parts_by

MOST_SPARE = 200


def spares(history, answers, k):
    """For each candidate how many more answers may contradict it, below 0 if it cannot be it."""
    return tuple([k - many for many in contradictions(history, answers)])


def ranking(history, answers):
    """All candidates, those that the fewest answers contradict first."""
    rows = [(many, c) for c, many in enumerate(contradictions(history, answers))]
    return tuple([c for _, c in sorted(rows)])


def against_others(history, answers, c):
    """Pairs of the candidates but one and how many answers contradict them."""
    return [(other, many) for other, many in enumerate(contradictions(history, answers)) if other != c]


def certain_against(history, answers, c):
    """The most false answers against which a candidate is certain, -1 if it never is."""
    return min([many - 1 for _, many in against_others(history, answers, c)], default=MOST_SPARE)


def rivals(history, answers, c):
    """The other candidates that the fewest answers contradict."""
    others = against_others(history, answers, c)
    fewest = min([many for _, many in others], default=0)
    return tuple([other for other, many in others if many == fewest])


def tellings(history, left):
    """For each make how many of the candidates left break it, and how many do not."""
    return tuple([told_by(history, left, m) for m in range(len(history[1]))])


def told_by(history, left, m):
    """How many of the candidates left break make m, and how many do not."""
    broken, works = parts_by(history, left, m)
    return len(broken), len(works)


def ends(history, answers, k):
    """For each candidate how many of the answers, from the first on, it stands at most."""
    # Answers that come rule out more, never less, so what the next contradiction rules out stays out.
    return [places[k] if len(places) > k else len(answers) for places in places_against(history, answers)]


def course(history, answers, k):
    """For each beginning of the answers how many candidates can be it."""
    found = ends(history, answers, k)
    return tuple([len([end for end in found if end >= many]) for many in range(len(answers) + 1)])


def decisive(history, answers, k):
    """Behind how many answers the candidates that can be it are those behind all of them, for good."""
    return max([0] + [end + 1 for end in ends(history, answers, k) if end < len(answers)])


def to_take_away(history, answers, k):
    """For each candidate how many answers must go at least until it can be it."""
    return tuple([max(0, -spare) for spare in spares(history, answers, k)])


def standings_text(history, answers, k):
    """A line with the spare of each candidate, in the order of ranking."""
    found = spares(history, answers, k)
    return "".join([f"{history[1][c][0]} spare {found[c]}\n" for c in ranking(history, answers)])
