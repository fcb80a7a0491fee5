"""The text of a tree: a line for each part (x1, x2)."""

from firstbreak.errors import BadHistory
from firstbreak.shapes import is_number

MOST_AROUND = 40
MOST_DIGITS = 3


def shown_tree(history, tree):
    """The text of a tree."""
    return "".join([f"{line}\n" for line in lines_of(history, tree, "")])


def lines_of(history, tree, ahead):
    """The lines of a part of a tree, with what stands ahead of each."""
    if tree[0] == "ask":
        _, m, broken, works = tree
        deeper = ahead + "  "
        first = f"{ahead}ask {history[1][m][0]}"
        return [first] + lines_of(history, broken, deeper) + lines_of(history, works, deeper)
    return [f"{ahead}found {tree[1]}" if tree[0] == "found" else f"{ahead}nobody"]


def parse_tree(history, text):
    """The tree of a text."""
    places = {name: m for m, (name, _) in enumerate(history[1])}
    *lines, rest = text.split("\n")
    if rest:
        lines.append(rest)
    tree, behind = read_part(places, lines, 0, 0)
    if behind < len(lines):
        raise BadHistory(behind + 1, "more lines")
    return tree


def read_part(places, lines, at, around):
    """The part of a tree that begins at a line with so many asks around it, and where the lines behind it begin."""
    words = words_at(lines, at, around)
    if words[0] == "nobody":
        return ("nobody",), at + 1
    if words[0] == "found":
        return ("found", int(words[1])), at + 1
    if words[1] not in places:
        raise BadHistory(at + 1, "unknown make")
    if around == MOST_AROUND:
        raise BadHistory(at + 1, "too deep")
    broken, middle = read_part(places, lines, at + 1, around + 1)
    works, behind = read_part(places, lines, middle, around + 1)
    return ("ask", places[words[1]], broken, works), behind


def words_at(lines, at, around):
    """The words of a line with so many asks around it."""
    if at == len(lines):
        raise BadHistory(at + 1, "not ended")
    ahead = "  " * around
    words = lines[at][len(ahead):].split(" ")
    if not lines[at].startswith(ahead) or not are_known(words):
        raise BadHistory(at + 1, "unknown line")
    return words


def are_known(words):
    """Whether words are those of a part of a tree, its name being any."""
    if len(words) == 2 and words[0] == "found":
        return is_number(words[1], MOST_DIGITS)
    return words == ["nobody"] or (len(words) == 2 and words[0] == "ask" and words[1] != "")
