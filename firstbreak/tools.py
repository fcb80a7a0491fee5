"""Looking at histories: merges, ways, gates and makes to blame (l1 to l7)."""

from firstbreak.histories import ancestors


def between(history, broken, works):
    """The candidates left behind broken and working makes, no answer being false."""
    under = [ancestors(history, m) for m in broken]
    cleared = [ancestors(history, m) for m in works]
    return tuple([
        c for c in range(len(history[1]))
        if all([c in row for row in under]) and not any([c in row for row in cleared])
    ])


def merges(history):
    """The makes that have two parents or more, ascending."""
    return tuple([m for m, (_, parents) in enumerate(history[1]) if len(parents) > 1])


def sides(history, m):
    """For each parent of make m its ancestors that no parent ahead of it has."""
    found = []
    seen = {}
    for parent in history[1][m][1]:
        side = [one for one in ancestors(history, parent) if one not in seen]
        for one in side:
            seen[one] = True
        found.append(tuple(side))
    return tuple(found)


def main_line(history):
    """The makes from the last one on, from each to its first parent."""
    m = len(history[1]) - 1
    line = [m]
    while history[1][m][1]:
        m = history[1][m][1][0]
        line.append(m)
    return tuple(line)


def reduced(history):
    """The history without idle parents."""
    return ("history", tuple([(name, without_idle(history, parents)) for name, parents in history[1]]))


def without_idle(history, parents):
    """Those of the parents of a make that are no ancestors of another one of them."""
    return tuple([
        parent for parent in parents
        if not any([parent in ancestors(history, other) for other in parents if other != parent])
    ])


def up_to(history, m):
    """The history of make m and its ancestors, with new numbers."""
    row = ancestors(history, m)
    numbers = {old: number for number, old in enumerate(row)}
    return ("history", tuple([renumbered(history[1][old], numbers) for old in row]))


def renumbered(make, numbers):
    """A make with new numbers of its parents."""
    name, parents = make
    return (name, tuple([numbers[parent] for parent in parents]))


def ways(history, m):
    """How many ways there are from make m to the last one."""
    return ways_from(history, m)[-1]


def ways_from(history, m):
    """For each make how many ways there are from make m to it."""
    found = []
    for at, (_, parents) in enumerate(history[1]):
        found.append(1 if at == m else sum([found[parent] for parent in parents]))
    return found


def gates(history, m):
    """The makes through which all ways from make m to the last one come, ascending."""
    found = ways_from(history, m)
    # As many ways come through a make as lead to it times as lead on from it.
    return tuple([at for at, many in enumerate(found) if many * ways(history, at) == found[-1]])


def to_blame(history, answers):
    """The makes that answers say are broken, and each parent of which they say works."""
    return tuple([
        m for m, (_, parents) in enumerate(history[1])
        if ("broken", m) in answers and all([("works", parent) in answers for parent in parents])
    ])
