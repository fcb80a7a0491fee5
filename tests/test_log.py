import unittest

import plain
from firstbreak.desk import Desk
from firstbreak.errors import BadAnswer, BadHistory, BadState
from firstbreak.log import mended, read_log, replay, write_log
from test_desk import NO_DEEDS, RULES, PlainDesk, any_deed, next_number, told

HISTORY = plain.chain(4)
DEEDS = (
    ("answer", "works", "a"), ("answer", "broken", "c"), ("skip", "b"), ("take", 0), ("answer", "works", "d"),
    ("answer", "broken", "a"), ("unskip", "b"), ("take", 2), ("answer", "works", "b"), ("skip", "d"), ("take", 1),
    ("answer", "works", "a"), ("take", 5),
)
LINES = (
    "answer works a", "answer broken c", "skip b", "take 0", "answer works d", "answer broken a", "unskip b", "take 2",
    "answer works b", "skip d", "take 1", "answer works a", "take 5",
)

# With the answers 0 to 199 there, each of these would be done if it were read loosely.
NO_LINES = (
    "", " ", "answer", "answer works", "answer works a a", "answer works a ", " answer works a", "answer  works a",
    "answer works  a", "answer\tworks a", "answer works\ta", "answer works a\t", "answer works a\r", "Answer works a",
    "answer Works a", "answer breaks a", "answer a works", "answers works a", "works a", "a", "answer works A", "skip",
    "skip a a", "skip  a", " skip a", "skip a ", "Skip a", "skip\ta", "skip a\r", "skip 0", "unskip", "unskip b b",
    " unskip b", "unskip  b", "unskip b ", "Unskip b", "undo", "undo ", "take", "take ", " take 1", "take  1", "take 1 ",
    "take 1 1", "take\t1", "take 1\t", "take 1\r", "Take 1", "take a", "take 01", "take 001", "take 00", "take +1",
    "take -0", "take -1", "take 1.0", "take 1_0", "take 0x1", "take 1e1", "take \u0661", "take \xb2", "take \uff11",
    "take 0000001", "take 1000000", "take True", "take one", "take 1,", "take#1", "take x", "take 1x", "take x1", "# take 1", "take 1 # that", "a take 1",
    "answer works a\x0banswer works a", "answer works a\u2028", "skip a;", "\ufeffskip a", "take 9999999999999999999999",
)
# These are lines, but what they tell cannot be done on such a desk.
NOT_DONE = (
    "answer works e", "answer works ", "answer broken b", "answer broken broken", "skip b", "skip e", "skip ", "unskip a",
    "unskip zz", "unskip ", "take 200", "take 201", "take 999999", "take 100000", "take 2000",
)


def full_desk():
    """A desk with answers 0 to 198 of which none went, and make b skipped."""
    desk = Desk(HISTORY, 0, "all")
    for _ in range(199):
        desk.do(("answer", "works", "a"))
    desk.do(("skip", "b"))
    return desk


class Replaying(unittest.TestCase):
    def same(self, desk, other):
        self.assertEqual((told(other), next_number(other)), (told(desk), next_number(desk)))

    def test_any_deeds(self):
        for at, history in enumerate(plain.SMALL[::9] + plain.SAMPLES[-5:] + [plain.mixed(24, 4, 1)]):
            for rule in RULES:
                desk, right = Desk(history, at % 3, rule), PlainDesk(history, at % 3, rule)
                rolls = plain.dice(at)
                for _ in range(60):
                    deed = any_deed(rolls, right.names)
                    if next(rolls) % 6 == 0 and right.log:
                        desk.undo()
                        right.log.pop()
                    elif not right.cannot(deed):
                        desk.do(deed)
                        right.log.append(deed)
                log = tuple(right.log)
                self.assertEqual(desk.log(), log)
                self.same(desk, replay(history, at % 3, rule, log))
                text = write_log(log)
                self.assertEqual(read_log(history, at % 3, rule, text), log)
                self.assertEqual(mended(history, at % 3, rule, text), log)
                self.assertEqual(text.count("\n"), len(log))

    def test_the_rule_is_kept(self):
        for k in range(21):
            for rule in RULES:
                self.assertEqual(replay(HISTORY, k, rule, DEEDS).rule(), (k, rule))
                self.assertEqual(replay(HISTORY, k, rule, ()).history(), HISTORY)

    def test_behind_undoing_the_number_is_the_same(self):
        desk = Desk(HISTORY, 1, "all")
        for deed in DEEDS:
            desk.do(deed)
        self.same(desk, replay(HISTORY, 1, "all", desk.log()))
        while desk.log():
            desk.undo()
            self.same(desk, replay(HISTORY, 1, "all", desk.log()))

    def test_a_replayed_desk_goes_on(self):
        desk = replay(HISTORY, 0, "all", DEEDS)
        self.assertEqual(desk.log(), DEEDS)
        for many in range(len(DEEDS), 0, -1):
            self.same(desk, replay(HISTORY, 0, "all", DEEDS[:many]))
            self.assertIsNone(desk.undo())
        with self.assertRaises(BadState):
            desk.undo()

    def test_two_thousand_deeds(self):
        log = (("skip", "a"), ("unskip", "a")) * 1000
        self.assertEqual(len(replay(HISTORY, 0, "all", log).log()), 2000)
        self.assertEqual(read_log(HISTORY, 0, "all", write_log(log)), log)
        self.refused(log + (("skip", "a"),), 2000)
        self.refused(log + (None,), 2000)
        answers = (("answer", "works", "a"),) * 200
        self.assertEqual(len(replay(HISTORY, 0, "all", answers).answers()), 200)
        self.refused(answers + (("answer", "works", "a"),), 200)
        self.refused(answers + (("take", 3), ("answer", "works", "a"), ("answer", "works", "a")), 202)

    def refused(self, log, place):
        with self.assertRaises(BadAnswer) as caught:
            replay(HISTORY, 0, "all", log)
        self.assertEqual(caught.exception.place, place)

    def test_entries_that_are_none(self):
        for place in range(len(DEEDS) + 1):
            for thing in NO_DEEDS:
                self.refused(DEEDS[:place] + (thing,) + DEEDS[place:], place)

    def test_entries_that_cannot_be_done(self):
        for place in range(len(DEEDS) + 1):
            right = PlainDesk(HISTORY, 0, "all")
            right.log = list(DEEDS[:place])
            for deed in (
                ("take", -1), ("take", 9), ("take", 0), ("take", 1), ("take", 2), ("skip", "b"), ("unskip", "b"),
                ("skip", "e"), ("unskip", "e"), ("answer", "works", "e"), ("answer", "works", "b"), ("skip", "d"),
            ):
                if right.cannot(deed):
                    self.refused(DEEDS[:place] + (deed,) + DEEDS[place:], place)
                    # Of several the first.
                    self.refused(DEEDS[:place] + (deed, None) + DEEDS[place:] + (None,), place)
                    self.refused(DEEDS[:place] + (None, deed), place)

    def test_no_tuples(self):
        for thing in (None, [], list(DEEDS), "", "skip a", 0, True):
            self.refused(thing, 0)


class Writing(unittest.TestCase):
    def test_the_text_itself(self):
        self.assertEqual(write_log(()), "")
        self.assertEqual(write_log((("take", 0),)), "take 0\n")
        self.assertEqual(write_log((("take", 199999),)), "take 199999\n")
        self.assertEqual(write_log(DEEDS), "".join(line + "\n" for line in LINES))

    def test_each_deed(self):
        for deed, line in zip(DEEDS, LINES):
            self.assertEqual(write_log((deed,)), line + "\n")


class Reading(unittest.TestCase):
    def refused(self, text, place):
        with self.assertRaises(BadAnswer) as caught:
            read_log(HISTORY, 0, "all", text)
        self.assertEqual(caught.exception.place, place, repr(text))

    def test_right_ones(self):
        for many in range(len(LINES) + 1):
            text = "".join(line + "\n" for line in LINES[:many])
            self.assertEqual(read_log(HISTORY, 0, "all", text), DEEDS[:many])

    def test_numbers(self):
        answers = "answer works a\n" * 150
        for number in (0, 1, 9, 10, 99, 100, 149):
            log = read_log(HISTORY, 0, "all", f"{answers}take {number}\n")
            self.assertEqual(log[-1], ("take", number))
            self.assertIs(type(log[-1][1]), int)
        self.refused(answers + "take 150\n", 150)

    def test_rows_that_are_none_at_each_place(self):
        for line in NO_LINES:
            for place in range(len(LINES) + 1):
                text = "".join(one + "\n" for one in LINES[:place] + (line,) + LINES[place:])
                self.refused(text, place)
                self.assertEqual(mended(HISTORY, 0, "all", text), DEEDS[:place])

    def test_rows_that_are_none_or_cannot_be_done(self):
        ahead = write_log(full_desk().log())
        for line in ("answer works a", "skip a", "unskip b", "take 1", "take 198", "take 10"):
            self.assertEqual(len(read_log(HISTORY, 0, "all", f"{ahead}{line}\n")), 201)
        for line in NO_LINES + NOT_DONE:
            self.refused(f"{ahead}{line}\n", 200)
            self.refused(f"{ahead}{line}\ntake 1\n\n", 200)
            self.refused(f"{ahead}take 1\n{line}\nx\n", 201)
            self.assertEqual(len(mended(HISTORY, 0, "all", f"{ahead}take 1\n{line}\ntake 2\n")), 201)

    def test_the_last_line_is_not_ended(self):
        for many in range(1, len(LINES) + 1):
            self.refused("\n".join(LINES[:many]), many - 1)
            for rest in (" ", "x", "take", "skip c", "\t", "\r", LINES[0]):
                self.refused("".join(line + "\n" for line in LINES[:many]) + rest, many)
        self.refused("x\nskip a", 0)
        self.refused("skip a\nskip a\nskip b", 1)

    def test_empty_lines(self):
        self.assertEqual(read_log(HISTORY, 0, "all", ""), ())
        self.refused("\n", 0)
        self.refused("\nskip a\n", 0)
        self.refused("skip a\n\n", 1)
        self.refused("skip a\n\nskip b\n", 1)
        self.refused("skip a\r\nskip b\r\n", 0)

    def test_limits(self):
        lines = "skip a\nunskip a\n" * 1000
        self.assertEqual(len(read_log(HISTORY, 0, "all", lines)), 2000)
        self.refused(lines + "skip a\n", 2000)
        self.refused(lines + "x", 2000)
        self.refused("answer works a\n" * 201, 200)
        self.refused("answer works a\n" * 200 + "take 0\n" + "answer works b\n" * 2, 202)

    def test_other_signs_than_newlines_part_no_lines(self):
        for sign in ("\r", "\x0b", "\x0c", "\x1c", "\x85", "\u2028", "\u2029"):
            self.refused(f"skip a{sign}skip b\n", 0)


class Mending(unittest.TestCase):
    text = "".join(line + "\n" for line in LINES)

    def test_cut_at_each_sign(self):
        for rule in RULES:
            for at in range(len(self.text) + 1):
                whole = self.text[:at].count("\n")
                self.assertEqual(mended(HISTORY, 1, rule, self.text[:at]), DEEDS[:whole])
                log = mended(HISTORY, 1, rule, self.text[:at])
                self.assertEqual(read_log(HISTORY, 1, rule, write_log(log)), log)

    def test_gone_on_with(self):
        for at in range(len(self.text) + 1):
            log = mended(HISTORY, 0, "all", self.text[:at])
            longer = write_log(log) + "skip c\n"
            self.assertEqual(mended(HISTORY, 0, "all", longer), log + (("skip", "c"),))
            self.assertEqual(read_log(HISTORY, 0, "all", longer), log + (("skip", "c"),))

    def test_a_fault_in_each_line(self):
        for place in range(len(LINES)):
            for wrong in (LINES[place] + " ", LINES[place][1:], "x" + LINES[place], "", "take 99", "skip e", LINES[place].upper()):
                lines = LINES[:place] + (wrong,) + LINES[place + 1:]
                self.assertEqual(mended(HISTORY, 0, "all", "\n".join(lines) + "\n"), DEEDS[:place])
                # What is behind a fault is left out even if it could be read.
                self.assertEqual(mended(HISTORY, 0, "all", "\n".join(lines) + "\nskip a\nskip c\n"), DEEDS[:place])

    def test_nothing_to_be_read(self):
        for text in ("", "\n", "x", "skip a", "x\nskip a\n", "\nskip a\n", " skip a\n", "unskip a\n", "take 0\n"):
            self.assertEqual(mended(HISTORY, 0, "all", text), ())

    def test_limits(self):
        lines = "skip a\nunskip a\n" * 1001
        self.assertEqual(len(mended(HISTORY, 0, "all", lines)), 2000)
        self.assertEqual(len(mended(HISTORY, 0, "all", "answer works a\n" * 205)), 200)


class AheadOfAll(unittest.TestCase):
    def test_what_a_desk_raises(self):
        wrong = ("history", (("a", ()), ("b", ())))
        calls = ((replay, (None,)), (replay, DEEDS), (replay, ()), (replay, None), (read_log, "x\n"), (read_log, ""), (mended, "x"), (mended, ""))
        for function, thing in calls:
            for history, k, rule in ((wrong, 0, "all"), (wrong, -1, "none"), (wrong, True, None)):
                with self.assertRaises(BadHistory) as caught:
                    function(history, k, rule, thing)
                self.assertEqual((caught.exception.line, caught.exception.reason), (0, "not of the last"))
            with self.assertRaises(BadHistory):
                function(None, 0, "all", thing)
            for k, rule in ((-1, "all"), (21, "two"), (True, "one"), (None, "all"), (0, "three"), (0, None), (3, "")):
                with self.assertRaises(BadState):
                    function(HISTORY, k, rule, thing)


if __name__ == "__main__":
    unittest.main()
