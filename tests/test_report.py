import unittest

import plain
from firstbreak.desk import Desk
from firstbreak.report import changed, report, short
from test_desk import RULES, PlainDesk, any_deed, told


def done(history, k, rule, *deeds):
    desk = Desk(history, k, rule)
    for deed in deeds:
        desk.do(deed)
    return desk


def plain_report(desk):
    """The report by the words of k5, of a plain desk."""
    answers, skipped, _ = desk.there()
    text = ""
    for c, name in enumerate(desk.names):
        text += name + (" can be" if c in desk.left() else " is out") + (" skipped" if c in skipped else "") + "\n"
    for number, (kind, m) in answers.items():
        text += "#" + str(number) + " " + kind + " " + desk.names[m] + "\n"
    text += "state " + desk.state() + "\n"
    return text + ("test " + desk.evenest() + "\n" if desk.evenest() else "")


def plain_short(desk):
    return desk.state() + "".join(" " + desk.names[c] for c in desk.left()) + "\n"


def walked(history, k, rule, seed, many):
    """A desk and a plain one behind deeds as dice fall."""
    desk, right = Desk(history, k, rule), PlainDesk(history, k, rule)
    rolls = plain.dice(seed)
    while len(right.log) < many:
        deed = any_deed(rolls, right.names)
        if not right.cannot(deed):
            desk.do(deed)
            right.log.append(deed)
    return desk, right


WORKS, BROKEN = ("answer", "works", "a"), ("answer", "broken", "c")


class Reports(unittest.TestCase):
    def test_open(self):
        desk = done(plain.chain(4), 0, "all", WORKS, BROKEN)
        text = "a is out\nb can be\nc can be\nd is out\n#0 works a\n#1 broken c\nstate open\ntest b\n"
        self.assertEqual((report(desk), short(desk)), (text, "open b c\n"))

    def test_alike(self):
        desk = done(plain.chain(4), 0, "all", WORKS, BROKEN, ("skip", "b"), ("skip", "d"))
        text = "a is out\nb can be skipped\nc can be\nd is out skipped\n#0 works a\n#1 broken c\nstate certain\n"
        self.assertEqual((report(desk), short(desk)), (text, "certain b c\n"))

    def test_one(self):
        desk = done(plain.chain(3), 0, "two", ("skip", "b"), ("answer", "broken", "a"))
        text = "a can be\nb is out skipped\nc is out\n#0 broken a\nstate certain\n"
        self.assertEqual((report(desk), short(desk)), (text, "certain a\n"))

    def test_nobody(self):
        desk = done(plain.chain(2), 0, "one", WORKS, ("answer", "broken", "a"))
        text = "a is out\nb is out\n#0 works a\n#1 broken a\nstate clash\n"
        self.assertEqual((report(desk), short(desk)), (text, "clash\n"))

    def test_answers_taken_away(self):
        desk = done(plain.chain(2), 0, "all", WORKS, WORKS, ("answer", "broken", "a"), ("take", 0), ("take", 2), WORKS)
        text = "a is out\nb can be\n#1 works a\n#3 works a\nstate certain\n"
        self.assertEqual((report(desk), short(desk)), (text, "certain b\n"))

    def test_no_answers(self):
        self.assertEqual(report(Desk(plain.chain(1), 0, "all")), "a can be\nstate certain\n")
        self.assertEqual(report(Desk(plain.chain(2), 3, "one")), "a can be\nb can be\nstate open\ntest a\n")
        self.assertEqual(short(Desk(plain.chain(2), 3, "one")), "open a b\n")

    def test_against_the_words(self):
        histories = plain.SMALL[::9] + plain.SAMPLES[-5:] + [plain.mixed(24, 4, 2)]
        seen = set()
        for at, history in enumerate(histories):
            for rule in RULES:
                for k in range(3):
                    for many in (0, 2, 5, 20):
                        desk, right = walked(history, k, rule, at + many, many)
                        before = told(desk)
                        self.assertEqual(report(desk), plain_report(right))
                        self.assertEqual(short(desk), plain_short(right))
                        self.assertEqual(told(desk), before)
                        seen.add((desk.state(), len(desk.can_be()) > 1, desk.evenest() == ""))
        self.assertEqual(len(seen), 4)


class Changes(unittest.TestCase):
    def test_both_directions(self):
        first = done(plain.chain(4), 0, "all", WORKS)
        second = done(plain.chain(4), 0, "all", BROKEN)
        self.assertEqual(changed(first, second), (("d",), ("a",)))
        self.assertEqual(changed(second, first), (("a",), ("d",)))
        nothing = Desk(plain.chain(4), 2, "two")
        self.assertEqual(changed(nothing, first), (("a",), ()))
        self.assertEqual(changed(first, nothing), ((), ("a",)))

    def test_nothing_changed(self):
        desk = done(plain.chain(4), 0, "all", WORKS)
        self.assertEqual(changed(desk, desk), ((), ()))
        # Other rules, numbers and skipped makes do not matter.
        other = done(plain.chain(4), 1, "one", WORKS, WORKS, ("skip", "d"))
        self.assertEqual(changed(desk, other), ((), ()))

    def test_other_histories(self):
        first = Desk(("history", (("c", ()), ("a", (0,)), ("x", (1,)), ("b", (2,)))), 0, "all")
        second = Desk(("history", (("b", ()), ("y", (0,)), ("z", (1,)), ("a", (2,)))), 0, "all")
        self.assertEqual(changed(first, second), (("c", "x"), ("y", "z")))
        self.assertEqual(changed(second, first), (("y", "z"), ("c", "x")))
        third = Desk(("history", (("z", ()), ("y", (0,)), ("x", (1,)), ("a", (2,)))), 0, "all")
        self.assertEqual(changed(second, third), (("b",), ("x",)))
        self.assertEqual(changed(third, first), (("z", "y"), ("c", "b")))

    def test_against_the_words(self):
        for at, history in enumerate(plain.SAMPLES[-5:]):
            desks = [walked(history, k, rule, at, many) for k in range(2) for rule in RULES for many in (0, 3, 8)]
            for desk, right in desks:
                for other, beside in desks:
                    names = [[plain_desk.names[c] for c in plain_desk.left()] for plain_desk in (right, beside)]
                    gone = tuple(name for name in names[0] if name not in names[1])
                    new = tuple(name for name in names[1] if name not in names[0])
                    self.assertEqual(changed(desk, other), (gone, new))


if __name__ == "__main__":
    unittest.main()
