"""The least sum of a chain, which is that of the best alphabetic tree (v3)."""


def chain_sum(likely):
    """The least sum of a chain of makes with these likelihoods."""
    return best_parts(likely)[0, len(likely) - 1][0]


def chain_tree(likely):
    """A tree of this sum, with candidates in the place of classes."""
    return part_from(best_parts(likely), 0, len(likely) - 1)


def best_parts(likely):
    """For the candidates from each to each behind it the least sum, and the make of the first test."""
    found = {}
    for behind in range(len(likely)):
        for i in range(len(likely) - behind):
            found[i, i + behind] = best_part(found, likely, i, i + behind)
    return found


def best_part(found, likely, i, j):
    """The least sum for the candidates from i to j, by those for fewer, and the make of the first test."""
    together = sum(likely[i:j + 1])
    return min([(together + found[i, m][0] + found[m + 1, j][0], m) for m in range(i, j)], default=(0, -1))


def part_from(found, i, j):
    """The tree for the candidates from i to j."""
    if i == j:
        return ("found", i)
    m = found[i, j][1]
    return ("ask", m, part_from(found, i, m), part_from(found, m + 1, j))
