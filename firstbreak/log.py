"""Logs of desks: replayed, written and read (k4)."""

from firstbreak.desk import Desk
from firstbreak.errors import BadAnswer, BadState
from firstbreak.shapes import is_number

MOST_DIGITS = 6


def replay(history, k, rule, log):
    """The desk behind the deeds of a log."""
    desk = Desk(history, k, rule)
    if not isinstance(log, tuple):
        raise BadAnswer(0)
    many = done(desk, log)
    if many < len(log):
        raise BadAnswer(many)
    return desk


def done(desk, entries):
    """How many entries were done, up to the first that is no deed or cannot be done."""
    for place, entry in enumerate(entries):
        try:
            desk.do(entry)
        except (BadAnswer, BadState):
            return place
    return len(entries)


def write_log(log):
    """The text of a log."""
    return "".join([line_of(deed) for deed in log])


def line_of(deed):
    """The line of a deed."""
    words = " ".join([str(word) for word in deed])
    return f"{words}\n"


def read_log(history, k, rule, text):
    """The log of a text."""
    return replay(history, k, rule, entries_of(text)).log()


def mended(history, k, rule, text):
    """The log of the longest beginning of whole lines that can be read."""
    desk = Desk(history, k, rule)
    done(desk, entries_of(text))
    return desk.log()


def entries_of(text):
    """For each line of a text its deed, or something that is none."""
    *lines, rest = text.split("\n")
    entries = [entry_of(line) for line in lines]
    # What is behind the last newline is not ended, so it is no deed, whatever it says.
    return tuple(entries + [None] if rest else entries)


def entry_of(line):
    """The words of a line as a deed has them; if they are none, the desk refuses them."""
    words = line.split(" ")
    if words[0] == "take" and len(words) == 2 and is_number(words[1], MOST_DIGITS):
        return ("take", int(words[1]))
    return tuple(words)
