"""Trees and tables with something else in the place of a part, for judges to look at."""

ODD_THINGS = (
    None, 0, 1, True, False, "", "nobody", "found", "ask", (), [], {}, (None,), ((),), b"", 1.5, ("nobody", ()),
    ["nobody"], ("Nobody",), ("found",), ["found", 0], ("found", 0, 0), ("Found", 0), (None, 0), ("found", None),
    ("found", "0"), ("found", (0,)), ("found", [0]), ("found", 0.0), ("found", -1), ("found", 9), ("ask",), ("ask", 0),
    ("ask", 0, ("nobody",)), (("nobody",),), ("nobody", "nobody"), ("ask", "nobody"), (("ask",), 0, (), ()),
    ("found", 0, ("found", 0), ("found", 0)), ("nobody", 0, ("found", 0), ("found", 1)),
)


def parts_of(tree):
    """Each part of a tree, with what gives the whole tree with something else in its place."""
    found = [(tree, lambda other: other)]
    if tree[0] == "ask":
        word, m, broken, works = tree
        for part, put in parts_of(broken):
            found.append((part, lambda other, put=put: (word, m, put(other), works)))
        for part, put in parts_of(works):
            found.append((part, lambda other, put=put: (word, m, broken, put(other))))
    return found


def others(game, part):
    """Parts of the right shape for the place of a part; most of them do not belong there."""
    yield ("nobody",)
    for at in range(-1, len(game.rows) + 1):
        yield ("found", at)
    if part[0] == "ask":
        _, m, broken, works = part
        yield ("ask", m, works, broken)
        yield broken
        yield works
        for other in range(-1, len(game.history[1]) + 1):
            yield ("ask", other, broken, works)


def misshapen(part):
    """Things that are never a part of a tree in the place of a right one."""
    for thing in ODD_THINGS:
        if thing != part:
            yield thing
    yield list(part)
    yield part + (part,)
    yield part[:-1]
    if part[0] == "found":
        yield ("found", str(part[1]))
        yield ("found", float(part[1]))
        if part[1] < 2:
            yield ("found", part[1] == 1)
    if part[0] == "ask":
        word, m, broken, works = part
        for other in (None, str(m), (m,), [m], float(m), -1, 24, 10 ** 30, True, False):
            yield (word, other, broken, works)
        for other in ("found", "nobody", "asks", "", None, 0, b"ask", ("ask",)):
            yield (other, m, broken, works)
        yield (word, m, list(broken), works)
        yield (word, m, broken, list(works))
        yield (word, m, broken, works, works)
        yield (word, m, broken)


def other_tables(q, table):
    """Tables of the right shape that lack rows, have others, or have them twice or in another order."""
    yield table
    yield table[::-1]
    for at in range(0, len(table), 1 + len(table) // 40):
        p, other = table[at]
        ahead, behind = table[:at], table[at + 1:]
        yield ahead + behind
        yield ahead + (table[at],) + table[at:]
        yield behind[:1] + ahead + table[at:at + 1] + behind[1:]
        for place, left in enumerate(other):
            for changed in (-1, left - 1, left + 1, 20):
                if -1 <= changed <= 20:
                    row = (p, other[:place] + (changed,) + other[place + 1:])
                    yield tuple(sorted(set(ahead + (row,) + behind)))
                    yield tuple(sorted(set(table + (row,))))
        for near in (p - 1, p + 1):
            if 0 <= near <= q:
                yield tuple(sorted(set(ahead + ((near, other),) + behind)))


def misshapen_tables(q, table):
    """Things that are never a table, a row of a right one being changed."""
    for at, (p, other) in enumerate(table):
        for row in misshapen_rows(q, p, other):
            yield table[:at] + (row,) + table[at + 1:]
            yield table[:at + 1] + (row,) + table[at + 1:]


def misshapen_rows(q, p, other):
    yield from (None, 0, True, "", "ab", (), [p, other], (p,), (other,), (p, other, ()), (other, p), (p, list(other)))
    for thing in (None, 0, "00000", other[1:], other + (0,), (), (other,), [], True):
        yield (p, thing)
    for thing in (None, str(p), (p,), [p], float(p), p == 1, p != 0, -1, q + 1, 10 ** 30, -10 ** 30):
        yield (thing, other)
    for thing in (False, True, None, "0", [], 0.0, (0,), -2, 21):
        yield (p, (thing,) + other[1:])
        yield (p, other[:-1] + (thing,))
