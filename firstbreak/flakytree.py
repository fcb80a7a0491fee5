"""Trees of tests without false answers, each make tested until it is settled (o5)."""

from firstbreak.flaky import counts_of, most_tests, settled


def reached(tree, answers, k, rule):
    """The part of a tree to which settled makes lead: an end, or the test of a make that is not settled."""
    while tree[0] == "ask":
        told = settled(answers, tree[1], k, rule)
        if not told:
            return tree
        tree = branch_of(tree, told)
    return tree


def branch_of(tree, told):
    """The branch of a test of a settled make."""
    return tree[3] if told == "works" else tree[2]


def next_make(tree, answers, k, rule):
    """The make to be tested next, -1 at an end."""
    part = reached(tree, answers, k, rule)
    return part[1] if part[0] == "ask" else -1


def told_class(tree, answers, k, rule):
    """The class that is found, -1 if no end is reached, -2 if it is the one for nobody."""
    part = reached(tree, answers, k, rule)
    if part[0] == "ask":
        return -1
    return part[1] if part[0] == "found" else -2


def still_needed(tree, answers, k, rule):
    """How many more tests are needed at most along a tree."""
    part = reached(tree, answers, k, rule)
    if part[0] != "ask":
        return 0
    _, m, broken, works = part
    more = most_tests(k, rule) - sum(counts_of(answers, m))
    return more + max(still_needed(broken, answers, k, rule), still_needed(works, answers, k, rule))


def run(tree, truth, noise, k, rule):
    """The answers along a tree by truth, but false where noise says so and the bound lets them be."""
    answers = []
    part = reached(tree, answers, k, rule)
    while part[0] == "ask":
        m = part[1]
        wanted = len(answers) < len(noise) and noise[len(answers)] == 1
        lies = wanted and can_lie(answers, m, truth[m], k, rule)
        answers.append((kind_of(truth[m] != lies), m))
        # No make comes to be settled both ways here, so the way so far stays as it is.
        part = reached(part, answers, k, rule)
    return tuple(answers)


def kind_of(broken):
    """The word of an answer."""
    return "broken" if broken else "works"


def can_lie(answers, m, broken, k, rule):
    """Whether one more answer of make m, which is broken or works, can be false."""
    if rule == "one" and not broken:
        return False
    return answers.count((kind_of(not broken), m)) < k
