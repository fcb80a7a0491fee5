"""The text of a history: a line for each make (h4, h5)."""

from firstbreak.errors import BadHistory
from firstbreak.histories import MOST_PARENTS, check_history, is_name


def parse(text):
    """The history that a text tells of."""
    places = {}
    makes = []
    for number, line in enumerate(text.split("\n"), start=1):
        words = words_of(line)
        if words:
            reason = fault(words, places)
            if reason:
                raise BadHistory(number, reason)
            makes.append((words[1], tuple(sorted([places[word] for word in words[3:]]))))
            places[words[1]] = len(places)
    history = ("history", tuple(makes))
    # With every line right, only what is asked of all the makes together can be wrong.
    check_history(history)
    return history


def words_of(line):
    """The words of a line, without its remark."""
    return [word for word in line.partition("#")[0].split(" ") if word]


def fault(words, places):
    """What is wrong with the words of a line behind the makes of places, "" if nothing is."""
    if words[0] != "make":
        return "unknown line"
    if not has_right_number(words):
        return "wrong number of words"
    if not is_name(words[1]):
        return "bad name"
    if words[1] in places:
        return "two of a name"
    return fault_of_parents(words[3:], places)


def has_right_number(words):
    """Whether a name stands there, alone or with from and something behind it."""
    return len(words) == 2 or (len(words) > 3 and words[2] == "from")


def fault_of_parents(words, places):
    """What is wrong with the names of parents, "" if nothing is."""
    seen = {}
    for word in words:
        if word not in places:
            return "unknown make"
        if word in seen:
            return "twice a parent"
        seen[word] = True
    if len(words) > MOST_PARENTS:
        return "too many parents"
    return ""


def shown(history):
    """The text of a history."""
    return "".join([line_of(history, make) for make in history[1]])


def line_of(history, make):
    """The line of a make, its parents as they stand."""
    name, parents = make
    if not parents:
        return f"make {name}\n"
    names = " ".join([history[1][parent][0] for parent in parents])
    return f"make {name} from {names}\n"
