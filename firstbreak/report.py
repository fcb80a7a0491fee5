"""What a desk tells as a text, and what differs between two desks (k5)."""


def report(desk):
    """All that a desk tells, line by line."""
    return "".join([f"{line}\n" for line in make_lines(desk) + answer_lines(desk) + state_lines(desk)])


def make_lines(desk):
    """A line for each make: whether it can be it, and whether it is skipped."""
    left = desk.can_be()
    skipped = desk.skipped()
    lines = []
    for m, (name, _) in enumerate(desk.history()[1]):
        standing = "can be" if name in left else "is out"
        lines.append(f"{name} {standing} skipped" if m in skipped else f"{name} {standing}")
    return lines


def answer_lines(desk):
    """A line for each answer that is there."""
    makes = desk.history()[1]
    return [f"#{number} {kind} {makes[m][0]}" for number, (kind, m) in zip(desk.numbers(), desk.answers())]


def state_lines(desk):
    """The state, and the evenest test if there is one."""
    name = desk.evenest()
    return [f"state {desk.state()}"] + ([f"test {name}"] if name else [])


def short(desk):
    """The state and those that can be it, in a line."""
    words = " ".join([desk.state(), *desk.can_be()])
    return f"{words}\n"


def changed(desk, other):
    """The names that can be it by the one desk alone, and by the other alone."""
    return without(desk.can_be(), other.can_be()), without(other.can_be(), desk.can_be())


def without(names, others):
    """Those of some names that are not among the others."""
    return tuple([name for name in names if name not in others])
