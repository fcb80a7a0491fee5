import unittest
from itertools import product

import plain
from firstbreak.errors import BadHistory
from firstbreak.treetext import parse_tree, shown_tree
from firstbreak.trees import best_tree

DIAMOND = plain.DIAMOND

WRONG_WORDS = (
    "", "ask", "ask ", "ask  a", " ask a", "ask a ", "ask a a", "ask a found 0", "ask\ta", "\task a", "asks a", "Ask a",
    "ASK a", "a", "a ask", "found", "found ", "found  0", " found 0", "found 0 ", "found 0 0", "found\t0", "found 0\t", "found 0\r",
    "Found 0", "founds 0", "0", "found a", "found 00", "found 01", "found 007", "found 1000", "found 0000", "found 12345",
    "found -1", "found +1", "found -0", "found 1.0", "found 1_0", "found 0x1", "found \u0661", "found \xb2", "found \uff11",
    "found 1\u0661", "found one", "found x", "found 1x", "found 0,", "found 0#", "nobody ", " nobody", "nobody 0", "nobody nobody", "Nobody", "nobody\t",
    "nobody\r", "nobodys", "nobod", "none", "make a", "#", "# nobody", "nobody # so", "ask a#b c", "\t", "\r", "\x0b", "\u2028",
    "\xa0nobody", "\ufeffnobody", "found\xa00", "ask\xa0a", "  ", "   nobody", " nobody", "\t\tnobody",
)
UNKNOWN_MAKES = (
    "ask e", "ask A", "ask aa", "ask 0", "ask ask", "ask found", "ask nobody", "ask a\t", "ask a\r", "ask a,", "ask #", "ask \xe4",
)


def plain_text(history, tree, around=0):
    """The text by the words of x1."""
    ahead = "  " * around
    if tree[0] == "ask":
        below = plain_text(history, tree[2], around + 1) + plain_text(history, tree[3], around + 1)
        return ahead + "ask " + history[1][tree[1]][0] + "\n" + below
    return ahead + " ".join(str(word) for word in tree) + "\n"


def any_tree(rolls, makes, depth):
    roll = next(rolls)
    if depth == 0 or roll % 5 == 0:
        return ("nobody",) if roll % 3 == 0 else ("found", roll // 7 % 1000)
    return ("ask", roll // 7 % makes, any_tree(rolls, makes, depth - 1), any_tree(rolls, makes, depth - 1))


def tower(asks, low):
    """A tree of so many asks within one another, the first branch always an end, or the second one."""
    tree = ("found", 7)
    for at in range(asks):
        tree = ("ask", at % 4, tree, ("nobody",)) if low else ("ask", at % 4, ("found", at), tree)
    return tree


TREES = [any_tree(plain.dice(seed), 4, depth) for seed in range(30) for depth in (0, 1, 2, 4, 6)]
LINES = plain_text(DIAMOND, ("ask", 1, ("ask", 0, ("found", 0), ("found", 12)), ("ask", 3, ("ask", 2, ("nobody",), ("found", 999)), ("nobody",))))


class Showing(unittest.TestCase):
    def test_ends_alone(self):
        for number in (0, 1, 9, 10, 23, 100, 999):
            self.assertEqual(shown_tree(DIAMOND, ("found", number)), f"found {number}\n")
        self.assertEqual(shown_tree(DIAMOND, ("nobody",)), "nobody\n")

    def test_by_hand(self):
        names = ("history", (("make", ()), ("ask", (0,)), ("nobody", (0, 1))))
        tree = ("ask", 1, ("ask", 0, ("found", 0), ("found", 1)), ("ask", 2, ("found", 2), ("nobody",)))
        text = (
            "ask ask\n  ask make\n    found 0\n    found 1\n  ask nobody\n    found 2\n    nobody\n"
        )
        self.assertEqual(shown_tree(names, tree), text)
        self.assertEqual(parse_tree(names, text), tree)

    def test_any_trees(self):
        for tree in TREES:
            self.assertEqual(shown_tree(DIAMOND, tree), plain_text(DIAMOND, tree))

    def test_deep_trees(self):
        for asks in (1, 39, 40, 41, 100):
            for low in (True, False):
                tree = tower(asks, low)
                text = shown_tree(DIAMOND, tree)
                self.assertEqual(text, plain_text(DIAMOND, tree))
                self.assertIn("\n" + "  " * asks + "found ", text)


class Reading(unittest.TestCase):
    def test_what_is_shown(self):
        for tree in TREES:
            text = shown_tree(DIAMOND, tree)
            self.assertEqual(parse_tree(DIAMOND, text), tree)
            # The last newline may be left out.
            self.assertEqual(parse_tree(DIAMOND, text[:-1]), tree)
        for history in plain.SAMPLES[-5:]:
            tree = best_tree(history, (), (0,) * len(history[1]))
            self.assertEqual(parse_tree(history, shown_tree(history, tree)), tree)

    def test_numbers(self):
        for number in range(1000):
            found = parse_tree(DIAMOND, f"found {number}")
            self.assertEqual(found, ("found", number))
            self.assertIs(type(found[1]), int)

    def test_forty_asks(self):
        for asks in (39, 40):
            for low in (True, False):
                tree = tower(asks, low)
                self.assertEqual(parse_tree(DIAMOND, shown_tree(DIAMOND, tree)), tree)
        # Asks beside one another are not within one another.
        tree = ("found", 0)
        for _ in range(6):
            tree = ("ask", 0, tree, tree)
        self.assertEqual(parse_tree(DIAMOND, shown_tree(DIAMOND, tree)), tree)

    def refused(self, text, line, reason):
        with self.assertRaises(BadHistory) as caught:
            parse_tree(DIAMOND, text)
        self.assertEqual((caught.exception.line, caught.exception.reason), (line, reason), repr(text))

    def test_not_ended(self):
        self.refused("", 1, "not ended")
        self.refused("ask a", 2, "not ended")
        self.refused("ask a\n", 2, "not ended")
        self.refused("ask a\n  found 0", 3, "not ended")
        self.refused("ask a\n  ask b\n    nobody\n    nobody\n", 5, "not ended")
        lines = LINES.split("\n")[:-1]
        for many in range(len(lines)):
            text = "".join(line + "\n" for line in lines[:many])
            self.refused(text, many + 1, "not ended")
            if many:
                self.refused(text[:-1], many + 1, "not ended")

    def test_unknown_line(self):
        lines = LINES.split("\n")[:-1]
        for words in WRONG_WORDS:
            for at, line in enumerate(lines):
                ahead = line[:len(line) - len(line.lstrip(" "))]
                spoilt = lines[:at] + [ahead + words] + lines[at + 1:]
                self.refused("\n".join(spoilt) + "\n", at + 1, "unknown line")
            if words:
                self.refused(words, 1, "unknown line")
            self.refused(words + "\n", 1, "unknown line")
            self.refused("ask a\n  nobody\n  " + words + "\n", 3, "unknown line")

    def test_spaces(self):
        lines = LINES.split("\n")[:-1]
        for at, line in enumerate(lines):
            words = line.lstrip(" ")
            for many in range(10):
                if 2 * " " * (many // 2) + " " * (many % 2) + words != line:
                    spoilt = lines[:at] + [" " * many + words] + lines[at + 1:]
                    self.refused("\n".join(spoilt), at + 1, "unknown line")
            for ahead in ("\t" * (len(line) // 2), "\xa0" * (len(line) - len(words)), " \t"):
                if ahead and len(line) > len(words):
                    self.refused("\n".join(lines[:at] + [ahead + words] + lines[at + 1:]), at + 1, "unknown line")

    def test_empty_lines(self):
        self.refused("\n", 1, "unknown line")
        self.refused("\nnobody\n", 1, "unknown line")
        self.refused("ask a\n\n  nobody\n  nobody\n", 2, "unknown line")
        self.refused("ask a\n  nobody\n\n  nobody\n", 3, "unknown line")
        self.refused("ask a\n  nobody\n\n", 3, "unknown line")

    def test_unknown_make(self):
        lines = LINES.split("\n")[:-1]
        for words in UNKNOWN_MAKES:
            self.refused(words, 1, "unknown make")
            for at, line in enumerate(lines):
                ahead = line[:len(line) - len(line.lstrip(" "))]
                self.refused("\n".join(lines[:at] + [ahead + words] + lines[at + 1:]), at + 1, "unknown make")

    def test_too_deep(self):
        for low in (True, False):
            for asks in (41, 42, 100):
                text = shown_tree(DIAMOND, tower(asks, low))
                self.refused(text, 41 if low else 81, "too deep")
        text = "".join("  " * at + "ask a\n" for at in range(40))
        self.refused(text, 41, "not ended")
        deep = "  " * 40
        self.refused(text + deep + "ask a\n", 41, "too deep")
        self.refused(text + deep + "ask a\nx\n", 41, "too deep")
        # The first reason in the told order.
        self.refused(text + deep + "ask e\n", 41, "unknown make")
        self.refused(text + deep + " ask a\n", 41, "unknown line")
        self.refused(text + deep[2:] + "ask a\n", 41, "unknown line")
        self.refused(text + deep + "nobody\n" + deep + "ask a\n", 42, "too deep")
        self.refused(text + deep + "nobody\n" + deep + "found 1\n", 43, "not ended")

    def test_more_lines(self):
        for tree in TREES[:20]:
            text = shown_tree(DIAMOND, tree)
            many = text.count("\n")
            for rest in ("\n", "\n\n", " ", " \n", "x", "nobody", "nobody\n", "found 0\n", "ask a\n", "  nobody", "ask e", "#", "\r\n", "\t"):
                self.refused(text + rest, many + 1, "more lines")
        self.refused("nobody\n\n", 2, "more lines")
        self.refused("found 0\nfound 0", 2, "more lines")

    def test_the_first_line(self):
        self.refused("ask a\n  ask e\n x\n", 2, "unknown make")
        self.refused("ask a\n x\n  ask e\n", 2, "unknown line")
        self.refused("ask e\n", 1, "unknown make")
        self.refused("ask e\nx\n", 1, "unknown make")
        self.refused("ask a\n  nobody\nx\nx\n", 3, "unknown line")
        self.refused("ask a\n  nobody\n  ask e", 3, "unknown make")
        self.refused("nobody\nask e\n  x", 2, "more lines")

    def test_no_other_errors(self):
        signs = ("ask a", "ask e", "found 0", "found 00", "nobody", "", "  ", "   ", "    ", "\n", "\n", "\n  ", "\t")
        right = 0
        for row in product(signs, repeat=4):
            try:
                tree = parse_tree(DIAMOND, "".join(row))
            except BadHistory as error:
                self.assertIn(error.reason, ("not ended", "unknown line", "unknown make", "too deep", "more lines"))
            else:
                right += 1
                self.assertEqual(shown_tree(DIAMOND, tree).rstrip("\n"), "".join(row).rstrip("\n"))
        self.assertGreater(right, 10)


if __name__ == "__main__":
    unittest.main()
