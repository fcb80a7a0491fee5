"""Answers of tests, and what they tell when some are false (a1, a2, a4, a5)."""

from firstbreak.classes import classes
from firstbreak.errors import BadAnswer
from firstbreak.histories import ancestors
from firstbreak.shapes import are_integers, ascends, is_integer

MOST_ANSWERS = 400


def check_answers(history, answers):
    """Raise BadAnswer if answers is no tuple of answers, or too long."""
    if not isinstance(answers, tuple):
        raise BadAnswer(0)
    if len(answers) > MOST_ANSWERS:
        raise BadAnswer(MOST_ANSWERS)
    for place, answer in enumerate(answers):
        if not is_answer(history, answer):
            raise BadAnswer(place)


def is_answer(history, thing):
    """Whether thing, which may be anything, is an answer."""
    if not isinstance(thing, tuple) or len(thing) != 2:
        return False
    if thing[0] not in ("broken", "works") or not is_integer(thing[1]):
        return False
    return 0 <= thing[1] < len(history[1])


def contradicts(history, candidate, answer):
    """Whether an answer contradicts a candidate."""
    kind, m = answer
    return is_against(kind, candidate in ancestors(history, m))


def is_against(kind, is_ancestor):
    """Whether an answer of a make contradicts a candidate that is an ancestor of it, or is none."""
    return is_ancestor == (kind == "works")


def places_against(history, answers):
    """For each make the indices of the answers that contradict it."""
    table = [ancestors(history, m) for m in range(len(history[1]))]
    return tuple([places_of(table, answers, c) for c in range(len(table))])


def places_of(table, answers, c):
    """The indices of the answers that contradict c, the ancestors of each make being in a table."""
    return tuple([at for at, (kind, m) in enumerate(answers) if is_against(kind, c in table[m])])


def contradictions(history, answers):
    """For each make how many answers contradict it."""
    return tuple([len(places) for places in places_against(history, answers)])


def can_be(history, answers, k):
    """The candidates that at most k answers contradict."""
    return tuple([c for c, many in enumerate(contradictions(history, answers)) if many <= k])


def verdict(history, skipped, answers, k):
    """What the answers tell, at most k of them being false."""
    row = can_be(history, answers, k)
    if not row:
        return ("none",)
    if len(row) == 1:
        return ("one", row[0])
    if are_alike(history, skipped, row):
        return ("alike", row)
    return ("open", row)


def are_alike(history, skipped, row):
    """Whether one class has all candidates of a row."""
    return any([all([c in group for c in row]) for group in classes(history, skipped)])


def certain_paper(history, answers, k, c):
    """The paper that no candidate but c can be it, None if another one can."""
    paper = []
    for other, places in enumerate(places_against(history, answers)):
        if other != c:
            if len(places) <= k:
                return None
            paper.append((other, places[:k + 1]))
    return tuple(paper)


def judge_certain(history, answers, k, c, paper):
    """Whether paper, which may be anything, shows that c is certain."""
    others = [other for other in range(len(history[1])) if other != c]
    if not isinstance(paper, tuple) or len(paper) != len(others):
        return False
    return all([rules_out(history, answers, k, other, entry) for other, entry in zip(others, paper)])


def rules_out(history, answers, k, other, entry):
    """Whether an entry of a paper has k + 1 answers that contradict the other candidate."""
    if not isinstance(entry, tuple) or len(entry) != 2:
        return False
    candidate, places = entry
    if not is_integer(candidate) or candidate != other:
        return False
    if not are_integers(places) or len(places) != k + 1 or not ascends(places):
        return False
    # The first and the last bound all of an ascending row, which has one place at least.
    if places[0] < 0 or places[-1] >= len(answers):
        return False
    return all([contradicts(history, other, answers[place]) for place in places])
