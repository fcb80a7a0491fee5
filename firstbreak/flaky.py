"""Answers whose falseness is bounded make by make (o1 to o4); rule is "two" or "one"."""

from firstbreak.histories import ancestors
from firstbreak.search import fewest


def counts_of(answers, make):
    """How many answers works, and how many answers broken a make has."""
    return answers.count(("works", make)), answers.count(("broken", make))


def settled(answers, make, k, rule):
    """As what a make is settled: "broken", "works", "" for not at all, "both"."""
    works, broken = counts_of(answers, make)
    is_broken = broken > (k if rule == "two" else 0)
    if works > k:
        return "both" if is_broken else "works"
    return "broken" if is_broken else ""


def can_be_by_make(history, answers, k, rule):
    """The candidates that agree with each settled make."""
    left = list(range(len(history[1])))
    for m in range(len(history[1])):
        told = settled(answers, m, k, rule)
        if told:
            row = ancestors(history, m)
            left = [c for c in left if told == ("broken" if c in row else "works")]
    return tuple(left)


def most_tests(k, rule):
    """How many tests settle a make, whatever the answers are."""
    return 2 * k + 1 if rule == "two" else k + 1


def fewest_by_make(history, skipped, k, rule):
    """The fewest tests that tell the class of the make that broke it."""
    return most_tests(k, rule) * fewest(history, skipped, 0)


def held_back(answers, make, k, rule):
    """What the answerer who holds back says of a make, "" if it comes to the game without false answers."""
    many = sum(counts_of(answers, make))
    if many >= most_tests(k, rule) - 1:
        return ""
    return "broken" if rule == "two" and many & 1 else "works"
