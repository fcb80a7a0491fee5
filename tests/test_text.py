import unittest

import plain
from firstbreak.errors import BadHistory
from firstbreak.text import parse, shown


class Reading(unittest.TestCase):
    def test_right_ones(self):
        for text, makes in (
            ("make a", (("a", ()),)),
            ("make a\n", (("a", ()),)),
            ("make a\nmake b from a", (("a", ()), ("b", (0,)))),
            ("\n\n  \nmake   a  \n\n make b  from   a \n   ", (("a", ()), ("b", (0,)))),
            ("make a # the first\n# alone\n #make c\nmake b from a#c d\n", (("a", ()), ("b", (0,)))),
            ("make a#\nmake b from a # # x", (("a", ()), ("b", (0,)))),
            ("make make\nmake from from make\nmake a from from make", (("make", ()), ("from", (0,)), ("a", (0, 1)))),
            ("make from", (("from", ()),)),
            ("make abcdefgh", (("abcdefgh", ()),)),
            (
                "make a\nmake b\nmake c\nmake d\nmake e from d b a c\n",
                (("a", ()), ("b", ()), ("c", ()), ("d", ()), ("e", (0, 1, 2, 3))),
            ),
        ):
            self.assertEqual(parse(text), ("history", makes))

    def test_twenty_four_makes(self):
        for history in (plain.chain(24), plain.fan(24)):
            self.assertEqual(parse(shown(history)), history)

    def refused(self, text, line, reason):
        with self.assertRaises(BadHistory) as caught:
            parse(text)
        self.assertEqual((caught.exception.line, caught.exception.reason), (line, reason), text)

    def test_unknown_line(self):
        for line in ("mak a", "makes a", "Make a", "from a", "a", "make\ta", "\tmake a", "make\r", "\t", "\xa0", "\x0b"):
            self.refused(line, 1, "unknown line")
            self.refused(f"make a\n# no\n\n{line}\nmake b from a\n", 4, "unknown line")

    def test_number_of_words(self):
        for line in (
            "make", "make ", "make # a", "make b a", "make b from", "make b from # a", "make b a from", "make b From a",
            "make b a a", "make b from, a", "make from from", "make b\tfrom a",
        ):
            self.refused(f"make a\n{line}\n", 2, "wrong number of words")

    def test_names(self):
        for name in ("A", "abcdefghi", "a1", "1", "a,", "a\t", "\ta", "a\r", "a-b", "\xe4", "a\x0bb", "a\x85", "\u2028"):
            self.refused(f"\nmake {name}\n", 2, "bad name")
            self.refused(f"make a\nmake {name} from a", 2, "bad name")
        self.refused("make a\nmake a\n", 2, "two of a name")
        self.refused("make a\nmake b from a\n\nmake a from b\n", 4, "two of a name")

    def test_parents(self):
        self.refused("make a\nmake b from c\n", 2, "unknown make")
        self.refused("make a\nmake b from b\n", 2, "unknown make")
        self.refused("make a\nmake b from a c\nmake c from b\n", 2, "unknown make")
        self.refused("make a\nmake b from A\n", 2, "unknown make")
        self.refused("make a\nmake b from a\t\n", 2, "unknown make")
        self.refused("make a\nmake b from from\n", 2, "unknown make")
        self.refused("make a\nmake b from a a\n", 2, "twice a parent")
        self.refused("make a\nmake b\nmake c from a b a\n", 3, "twice a parent")
        five = "make a\nmake b\nmake c\nmake d\nmake e\nmake f from "
        self.refused(five + "a b c d e\n", 6, "too many parents")
        self.refused(five + "e d c b a\n", 6, "too many parents")

    def test_what_comes_first_in_a_line(self):
        five = "make a\nmake b\nmake c\nmake d\nmake e\n"
        self.refused("mak", 1, "unknown line")
        self.refused("mak A from", 1, "unknown line")
        self.refused("make A from", 1, "wrong number of words")
        self.refused("make A b", 1, "wrong number of words")
        self.refused("make a\nmake a from", 2, "wrong number of words")
        self.refused("make A from x", 1, "bad name")
        self.refused("make a\nmake a from x", 2, "two of a name")
        self.refused("make a\nmake a from a a", 2, "two of a name")
        self.refused("make a\nmake b from a x a", 2, "unknown make")
        self.refused("make a\nmake b from a a x", 2, "twice a parent")
        self.refused("make a\nmake b from x x", 2, "unknown make")
        self.refused(five + "make f from a b c d x", 6, "unknown make")
        self.refused(five + "make f from a b c d d", 6, "twice a parent")
        self.refused(five + "make f from a b c d e a", 6, "twice a parent")
        self.refused(five + "make f from a b c d e x", 6, "unknown make")

    def test_over_the_whole_text(self):
        for text in ("", "\n", "   \n\n", "# make a", "#\n #\n"):
            self.refused(text, 0, "no makes")
        names = [f"a{letter}" for letter in "abcdefghijklmnopqrstuvwxyz"]
        for many in (25, 26):
            self.refused("".join(f"make {name}\n" for name in names[:many]), 0, "too many makes")
        self.refused("make a\nmake b\n", 0, "not of the last")
        self.refused("make a\nmake b from a\nmake c from a\n", 0, "not of the last")

    def test_a_wrong_line_ahead_of_the_whole_text(self):
        names = [f"a{letter}" for letter in "abcdefghijklmnopqrstuvwxyz"]
        text = "".join(f"make {name}\n" for name in names)
        self.refused(text + "make A", 27, "bad name")
        self.refused(text + "x", 27, "unknown line")
        self.refused("make a\nmake b\nmake", 3, "wrong number of words")
        self.refused("make A\nx\n", 1, "bad name")
        self.refused("x\nmake A\n", 1, "unknown line")


class Writing(unittest.TestCase):
    def test_the_text_itself(self):
        history = ("history", (("a", ()), ("bc", ()), ("make", (0,)), ("d", (0, 1, 2)), ("from", (3,))))
        text = "make a\nmake bc\nmake make from a\nmake d from a bc make\nmake from from d\n"
        self.assertEqual(shown(history), text)
        self.assertEqual(parse(text), history)
        self.assertEqual(shown(plain.history_of(())), "make a\n")

    def test_read_again(self):
        for history in plain.SAMPLES:
            self.assertEqual(parse(shown(history)), history)


if __name__ == "__main__":
    unittest.main()
