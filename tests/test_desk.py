import unittest
from itertools import product

import plain
from firstbreak.desk import Desk
from firstbreak.errors import BadAnswer, BadHistory, BadState

RULES = ("all", "two", "one")

NO_DEEDS = (
    (), ("answer",), ("take",), ("skip",), ("unskip",), ("undo",), ("answer", "broken"), ("answer", "a"),
    ("answer", "broken", "a", "a"), ("answer", "broken", "a", ()), ("take", 0, 0), ("take", 0, "a"), ("skip", "a", "a"),
    ("unskip", "a", "a"), ("skip", "broken", "a"), ("undo", 0), ("undo", "a"), ("Answer", "broken", "a"),
    ("answers", "broken", "a"), ("", "broken", "a"), ("answer", "Broken", "a"), ("answer", "breaks", "a"),
    ("answer", "", "a"), ("answer", "a", "broken"), ("answer", None, "a"), ("answer", True, "a"), ("answer", 0, "a"),
    ("answer", ("broken",), "a"), ("answer", ["broken"], "a"), ("answer", "broken", None), ("answer", "broken", 0),
    ("answer", "broken", True), ("answer", "broken", ("a",)), ("answer", "works", ["a"]), ("take", "0"), ("take", None),
    ("take", True), ("take", False), ("take", (0,)), ("take", [0]), ("take", "a"), ("Take", 0), ("skip", 0), ("skip", None),
    ("skip", True), ("skip", ("a",)), ("skip", ["a"]), ("unskip", 0), ("unskip", None), ("unskip", False),
    ("unskip", ("a",)), ("Skip", "a"), ("Unskip", "a"), (0, "a"), (None, "a"), (True, "a"), (("skip",), "a"),
    (["skip"], "a"), (0, 0), (None, "broken", "a"), (("answer",), "broken", "a"), (("skip", "a"),), (("take", 0),),
    (("answer", "broken", "a"),), ["answer", "broken", "a"], ["take", 0], ["skip", "a"], ["unskip", "a"], [], "", "a",
    "skip a", "take 0", "answer broken a", None, 0, 1, -1, True, False, ((),), ([],), [()], ("a", "b", "c", "d"),
)


def under(history):
    return [plain.walk(history, m) for m in plain.indices(history)]


def bounded(rule, k, against):
    """Whether the answers that contradict a candidate can all be false."""
    if rule == "all":
        return len(against) <= k
    if rule == "one" and any(kind == "broken" for kind, _ in against):
        return False
    return all(sum(m == other for _, other in against) <= k for _, m in against)


class PlainDesk:
    """A desk that works everything out from its log, by the words of k1 to k3."""

    def __init__(self, history, k, rule):
        self.history, self.k, self.rule = history, k, rule
        self.names = [name for name, _ in history[1]]
        self.under = under(history)
        self.log = []

    def there(self):
        answers, skipped, came = {}, set(), 0
        for word, *rest in self.log:
            if word == "answer":
                answers[came] = (rest[0], self.names.index(rest[1]))
                came += 1
            elif word == "take":
                del answers[rest[0]]
            elif word == "skip":
                skipped.add(self.names.index(rest[0]))
            else:
                skipped.remove(self.names.index(rest[0]))
        return answers, skipped, came

    def cannot(self, deed):
        """Whether a deed cannot be done."""
        answers, skipped, _ = self.there()
        if len(self.log) >= 2000:
            return True
        if deed[0] == "take":
            return deed[1] not in answers
        if deed[-1] not in self.names:
            return True
        is_skipped = self.names.index(deed[-1]) in skipped
        if deed[0] == "answer":
            return is_skipped or len(answers) >= 200
        return is_skipped == (deed[0] == "skip")

    def left(self):
        answers = self.there()[0].values()
        found = []
        for c in plain.indices(self.history):
            against = [answer for answer in answers if (c in self.under[answer[1]]) == (answer[0] == "works")]
            if bounded(self.rule, self.k, against):
                found.append(c)
        return found

    def state(self):
        left, skipped = self.left(), self.there()[1]
        if not left:
            return "clash"
        for m in plain.indices(self.history):
            if m not in skipped and len({c in self.under[m] for c in left}) > 1:
                return "open"
        return "certain"

    def evenest(self):
        left, skipped = self.left(), self.there()[1]
        best, least = "", 99
        for m in plain.indices(self.history):
            broken = sum(c in self.under[m] for c in left)
            if m not in skipped and 0 < broken < len(left) and max(broken, len(left) - broken) < least:
                best, least = self.names[m], max(broken, len(left) - broken)
        return best

    def all_told(self):
        answers, skipped, came = self.there()
        names = tuple(self.names[c] for c in self.left())
        told = tuple(answers.values()), tuple(answers), tuple(sorted(skipped)), names, self.state(), self.evenest()
        return (self.history, (self.k, self.rule), tuple(self.log)) + told, came


def told(desk):
    """Everything that a desk tells."""
    return (
        desk.history(), desk.rule(), desk.log(), desk.answers(), desk.numbers(), desk.skipped(), desk.can_be(),
        desk.state(), desk.evenest(),
    )


def next_number(desk):
    """The number that the next answer gets, found out by one that is undone again; None if none can come."""
    free = [name for m, (name, _) in enumerate(desk.history()[1]) if m not in desk.skipped()]
    if not free or len(desk.numbers()) >= 200 or len(desk.log()) >= 2000:
        return None
    desk.do(("answer", "works", free[0]))
    number = desk.numbers()[-1]
    desk.undo()
    return number


def any_deed(rolls, names):
    """A deed as dice fall; some of them cannot be done."""
    roll = next(rolls) % 16
    name = (names + ["zz"])[next(rolls) % (len(names) + 1)]
    if roll < 8:
        return ("answer", ("broken", "works")[roll % 2], name)
    if roll < 11:
        return ("take", next(rolls) % 12 - 1)
    return ("skip" if roll < 13 else "unskip", name)


class Refusing(unittest.TestCase):
    def refused(self, desk, deed, kind):
        before = told(desk), next_number(desk)
        with self.assertRaises(kind) as caught:
            desk.do(deed)
        if kind is BadAnswer:
            self.assertEqual(caught.exception.place, 0)
        self.assertEqual((told(desk), next_number(desk)), before, deed)


class Walks(Refusing):
    def compare(self, desk, right):
        everything, came = right.all_told()
        self.assertEqual(told(desk), everything)
        self.assertIn(next_number(desk), (came, None))
        if next_number(desk) is None:
            self.assertTrue(len(right.there()[1]) == len(right.names) or len(desk.numbers()) == 200)

    def walk(self, history, k, rule, seed, many):
        desk, right = Desk(history, k, rule), PlainDesk(history, k, rule)
        rolls = plain.dice(seed)
        self.compare(desk, right)
        for _ in range(many):
            if next(rolls) % 9 == 0:
                if right.log:
                    self.assertIsNone(desk.undo())
                    right.log.pop()
            else:
                deed = any_deed(rolls, right.names)
                if right.cannot(deed):
                    self.refused(desk, deed, BadState)
                else:
                    self.assertIsNone(desk.do(deed))
                    right.log.append(deed)
            self.compare(desk, right)
        return desk, right

    def test_any_deeds(self):
        histories = plain.SMALL[::7] + plain.SAMPLES[-5:] + [plain.mixed(12, 3, 4), plain.chain(24)]
        for at, history in enumerate(histories):
            for rule in RULES:
                for k in (0, 1, 2 + at % 3):
                    self.walk(history, k, rule, 10 * at + k, 40)

    def test_back_through_all_deeds(self):
        for at, rule in enumerate(RULES):
            desk, right = self.walk(plain.DIAMOND, 1, rule, at, 80)
            self.assertGreater(len(right.log), 10)
            while right.log:
                self.assertIsNone(desk.undo())
                right.log.pop()
                self.compare(desk, right)
            for _ in range(2):
                with self.assertRaises(BadState):
                    desk.undo()
                self.compare(desk, right)
            self.assertEqual(told(desk), told(Desk(plain.DIAMOND, 1, rule)))

    def test_no_deeds(self):
        desk, _ = self.walk(plain.DIAMOND, 1, "all", 3, 30)
        full = Desk(plain.DIAMOND, 0, "two")
        for deed in [("answer", "works", "a")] * 200:
            full.do(deed)
        for deed in NO_DEEDS:
            for other in (desk, full, Desk(plain.chain(1), 0, "one")):
                self.refused(other, deed, BadAnswer)

    def test_each_ground(self):
        desk = Desk(plain.DIAMOND, 1, "two")
        for deed in (("answer", "works", "a"), ("answer", "broken", "b"), ("answer", "broken", "d"), ("take", 1), ("skip", "b")):
            self.assertIsNone(desk.do(deed))
        for deed in (
            ("answer", "broken", "e"), ("answer", "works", "A"), ("answer", "works", ""), ("answer", "works", "a "),
            ("answer", "broken", "broken"), ("skip", "e"), ("skip", ""), ("skip", "0"), ("unskip", "e"), ("unskip", ""),
            ("take", 1), ("take", 3), ("take", -1), ("take", -2), ("take", 10 ** 30), ("take", -10 ** 30), ("skip", "b"),
            ("unskip", "a"), ("unskip", "d"), ("answer", "broken", "b"), ("answer", "works", "b"),
        ):
            self.refused(desk, deed, BadState)
        self.assertEqual(desk.answers(), (("works", 0), ("broken", 3)))
        self.assertEqual((desk.numbers(), desk.skipped()), ((0, 2), (1,)))

    def test_no_answers_to_take(self):
        desk = Desk(plain.chain(2), 0, "all")
        for number in (0, 1, -1):
            self.refused(desk, ("take", number), BadState)

    def test_several_faults(self):
        desk = Desk(plain.chain(2), 0, "all")
        desk.do(("skip", "a"))
        for deed in (
            ("answer", "breaks", "zz"), ("answer", "breaks", "a"), ("answer", "zz", "zz"), ("skip", "a", "a"), ("take", "zz"),
            ("unskip", "zz", 0), ("answer", "broken", "a", "b"), ("take", True), ("skip", None), ("take", 7, 7),
        ):
            self.refused(desk, deed, BadAnswer)


class Numbers(unittest.TestCase):
    def test_in_the_order_in_which_they_came(self):
        desk = Desk(plain.chain(3), 20, "all")
        for name in "abcab":
            desk.do(("answer", "works", name))
        self.assertEqual(desk.numbers(), (0, 1, 2, 3, 4))
        desk.do(("take", 4))
        desk.do(("answer", "broken", "c"))
        self.assertEqual(desk.numbers(), (0, 1, 2, 3, 5))
        for number in (0, 1, 2, 3, 5):
            desk.do(("take", number))
        self.assertEqual((desk.numbers(), desk.answers()), ((), ()))
        desk.do(("answer", "broken", "b"))
        self.assertEqual((desk.numbers(), desk.answers()), ((6,), (("broken", 1),)))

    def test_undo_gives_the_number_back(self):
        desk = Desk(plain.chain(3), 20, "all")
        desk.do(("answer", "works", "a"))
        desk.do(("answer", "works", "b"))
        desk.undo()
        self.assertEqual(desk.numbers(), (0,))
        desk.do(("answer", "broken", "c"))
        self.assertEqual((desk.numbers(), desk.answers()), ((0, 1), (("works", 0), ("broken", 2))))
        desk.do(("take", 0))
        desk.undo()
        self.assertEqual((desk.numbers(), desk.answers()), ((0, 1), (("works", 0), ("broken", 2))))

    def test_the_same_answer_again(self):
        desk = Desk(plain.chain(2), 1, "all")
        desk.do(("answer", "works", "a"))
        desk.do(("answer", "works", "a"))
        self.assertEqual(desk.can_be(), ("b",))
        desk.do(("take", 0))
        self.assertEqual((desk.numbers(), desk.can_be()), ((1,), ("a", "b")))

    def test_answers_to_skipped_makes_stay(self):
        desk = Desk(plain.chain(3), 0, "all")
        desk.do(("answer", "works", "a"))
        desk.do(("answer", "broken", "b"))
        for name in ("a", "b", "c"):
            desk.do(("skip", name))
            self.assertEqual(desk.answers(), (("works", 0), ("broken", 1)))
            self.assertEqual((desk.can_be(), desk.state()), (("b",), "certain"))
        # An answer to a skipped make can be taken away.
        desk.do(("take", 1))
        self.assertEqual((desk.answers(), desk.can_be(), desk.state()), ((("works", 0),), ("b", "c"), "certain"))
        desk.do(("unskip", "b"))
        self.assertEqual((desk.skipped(), desk.state(), desk.evenest()), ((0, 2), "open", "b"))

    def test_skipped_ascend(self):
        desk = Desk(plain.chain(4), 0, "all")
        for name in "cadb":
            desk.do(("skip", name))
            self.assertEqual(desk.skipped(), tuple(sorted(desk.skipped())))
        self.assertEqual(desk.skipped(), (0, 1, 2, 3))
        desk.do(("unskip", "c"))
        self.assertEqual(desk.skipped(), (0, 1, 3))


class Limits(Refusing):
    def test_answers_that_are_there(self):
        desk = Desk(plain.chain(2), 20, "all")
        for at in range(200):
            desk.do(("answer", "works", "ab"[at % 2]))
        self.assertEqual(desk.numbers(), tuple(range(200)))
        for deed in (("answer", "works", "a"), ("answer", "broken", "b")):
            self.refused(desk, deed, BadState)
        self.refused(desk, ("answer", "breaks", "a"), BadAnswer)
        desk.do(("take", 17))
        desk.do(("answer", "broken", "a"))
        self.assertEqual((len(desk.numbers()), desk.numbers()[-1], desk.answers()[-1]), (200, 200, ("broken", 0)))
        self.refused(desk, ("answer", "works", "a"), BadState)
        # The others can still be done.
        for deed in (("skip", "a"), ("unskip", "a"), ("take", 200)):
            desk.do(deed)
        desk.undo()
        self.refused(desk, ("answer", "works", "a"), BadState)
        desk.undo()
        desk.undo()
        desk.undo()
        self.assertEqual((len(desk.numbers()), desk.numbers()[-1]), (199, 199))
        desk.do(("answer", "works", "b"))
        self.assertEqual(desk.numbers()[-1], 200)

    def test_deeds(self):
        desk = Desk(plain.chain(2), 0, "all")
        desk.do(("answer", "works", "a"))
        for at in range(1998):
            # What is refused does not count.
            if at % 100 == 0:
                self.refused(desk, ("take", 9), BadState)
            desk.do(("unskip" if at % 2 else "skip", "b"))
        desk.do(("answer", "broken", "b"))
        self.assertEqual(len(desk.log()), 2000)
        deeds = (("answer", "works", "a"), ("take", 0), ("skip", "a"), ("skip", "b"))
        for deed in deeds + (("take", 7), ("skip", "zz"), ("unskip", "b")):
            self.refused(desk, deed, BadState)
        self.refused(desk, ("skip", 0), BadAnswer)
        self.refused(desk, None, BadAnswer)
        for deed in deeds:
            desk.undo()
            self.assertEqual(len(desk.log()), 1999)
            desk.do(deed)
            self.assertEqual((len(desk.log()), desk.log()[-1]), (2000, deed))
            self.refused(desk, ("answer", "broken", "b"), BadState)

    def test_many_deeds_undone(self):
        desk = Desk(plain.chain(1), 0, "all")
        # Deeds that were undone are no deeds that were done.
        for _ in range(2100):
            desk.do(("skip", "a"))
            desk.undo()
        self.assertEqual((desk.log(), desk.skipped()), ((), ()))


class Made(unittest.TestCase):
    def test_what_it_was_made_of(self):
        for k in range(21):
            for rule in RULES:
                desk = Desk(plain.DIAMOND, k, rule)
                names = ("a", "b", "c", "d")
                self.assertEqual(told(desk), (plain.DIAMOND, (k, rule), (), (), (), (), names, "open", "b"))
                self.assertEqual(next_number(desk), 0)

    def refused(self, history, k, rule, kind):
        with self.assertRaises(kind) as caught:
            Desk(history, k, rule)
        return caught.exception

    def test_wrong_bounds_and_rules(self):
        for k in (-1, 21, -21, 22, 400, 10 ** 30, -10 ** 30, True, False, None, "0", "", "all", (), (0,), [0], [], 0.0):
            for rule in RULES:
                self.refused(plain.DIAMOND, k, rule, BadState)
        for rule in ("", "All", "ALL", "some", "three", "all ", "o", "on", None, 0, 1, True, False, (), ("all",), ["all"], []):
            for k in (0, 20, 21, None):
                self.refused(plain.DIAMOND, k, rule, BadState)

    def test_wrong_histories_ahead_of_all(self):
        wrong = (
            (None, "not a history"), ([], "not a history"), (("history", []), "not a history"),
            (("history", (("a", (True,)),)), "not a history"), (("history", ()), "no makes"),
            (("history", tuple((chr(97 + at) * 2, ()) for at in range(25))), "too many makes"),
            (("history", (("A", ()),)), "bad name"), (("history", (("a", ()), ("a", (0,)))), "two of a name"),
            (("history", (("a", ()), ("b", (1,)))), "bad parents"), (("history", (("a", ()), ("b", ()))), "not of the last"),
        )
        for history, reason in wrong:
            for k, rule in ((0, "all"), (-1, "all"), (True, "one"), (0, "three"), (None, None)):
                error = self.refused(history, k, rule, BadHistory)
                self.assertEqual((error.line, error.reason), (0, reason))

    def test_desks_keep_to_themselves(self):
        desk, other = Desk(plain.DIAMOND, 1, "all"), Desk(plain.DIAMOND, 1, "all")
        for deed in (("answer", "works", "a"), ("skip", "b")):
            desk.do(deed)
        self.assertEqual(told(other), told(Desk(plain.DIAMOND, 1, "all")))


class Tells(unittest.TestCase):
    def desk(self, history, k, rule, *answers):
        desk = Desk(history, k, rule)
        for kind, name in answers:
            desk.do(("answer", kind, name))
        return desk

    def test_each_bound(self):
        for k in range(21):
            for many in (k, k + 1):
                ruled_out = ("b",) if many > k else ("a", "b")
                desk = self.desk(plain.chain(2), k, "all", *[("works", "a")] * many)
                self.assertEqual(desk.can_be(), ruled_out)
                for rule in ("two", "one"):
                    desk = self.desk(plain.chain(2), k, rule, *[("works", "a")] * many)
                    self.assertEqual(desk.can_be(), ruled_out)
                # Bounded make by make: as many false ones of each make.
                both = [("works", "a")] * many + [("works", "b")] * k
                self.assertEqual(self.desk(plain.chain(2), k, "two", *both).can_be(), ruled_out)
                self.assertEqual(self.desk(plain.chain(2), k, "one", *both).can_be(), ruled_out)
                if k:
                    self.assertEqual(self.desk(plain.chain(2), k, "all", *both).can_be(), ("b",))
            broken = [("broken", "a")] * k
            self.assertEqual(self.desk(plain.chain(2), k, "all", *broken).can_be(), ("a", "b"))
            self.assertEqual(self.desk(plain.chain(2), k, "two", *broken).can_be(), ("a", "b"))
            self.assertEqual(self.desk(plain.chain(2), k, "one", *broken).can_be(), ("a", "b") if k == 0 else ("a",))
            broken += [("broken", "a")]
            for rule in RULES:
                self.assertEqual(self.desk(plain.chain(2), k, rule, *broken).can_be(), ("a",))

    def test_states(self):
        answers = (("works", "a"), ("broken", "c"))
        desk = self.desk(plain.chain(4), 0, "all", *answers)
        self.assertEqual((desk.can_be(), desk.state(), desk.evenest()), (("b", "c"), "open", "b"))
        desk.do(("skip", "b"))
        self.assertEqual((desk.can_be(), desk.state(), desk.evenest()), (("b", "c"), "certain", ""))
        desk.do(("unskip", "b"))
        self.assertEqual((desk.state(), desk.evenest()), ("open", "b"))
        desk.do(("answer", "broken", "b"))
        self.assertEqual((desk.can_be(), desk.state(), desk.evenest()), (("b",), "certain", ""))
        desk.do(("answer", "works", "b"))
        self.assertEqual((desk.can_be(), desk.state(), desk.evenest()), ((), "clash", ""))
        desk.do(("skip", "b"))
        self.assertEqual((desk.can_be(), desk.state(), desk.evenest()), ((), "clash", ""))

    def test_all_skipped(self):
        desk = Desk(plain.fan(5), 0, "all")
        self.assertEqual(desk.state(), "open")
        for name, _ in plain.fan(5)[1]:
            desk.do(("skip", name))
        self.assertEqual((len(desk.can_be()), desk.state(), desk.evenest()), (5, "certain", ""))

    def test_one_make(self):
        desk = Desk(plain.chain(1), 0, "all")
        self.assertEqual((desk.can_be(), desk.state(), desk.evenest()), (("a",), "certain", ""))

    def test_the_evenest_test(self):
        # The greater side counts, and of several makes the first one.
        for n, right in ((2, "a"), (3, "a"), (4, "b"), (5, "b"), (6, "c"), (24, "l")):
            self.assertEqual(Desk(plain.chain(n), 0, "all").evenest(), right)
        desk = Desk(plain.chain(6), 0, "all")
        for name, right in (("c", "b"), ("b", "d"), ("d", "a"), ("a", "e"), ("e", "")):
            desk.do(("skip", name))
            self.assertEqual(desk.evenest(), right)
        self.assertEqual(desk.state(), "certain")

    def test_the_evenest_test_of_all_that_is_left(self):
        for history in plain.SMALL + plain.SAMPLES[-5:]:
            names = [name for name, _ in history[1]]
            for skipped in plain.subsets(names, 2):
                for answers in product(("", "broken", "works"), repeat=min(3, len(names))):
                    desk, right = Desk(history, 1, "one"), PlainDesk(history, 1, "one")
                    for kind, name in zip(answers, names[::-1]):
                        for _ in range(2 if kind else 0):
                            right.log.append(("answer", kind, name))
                    right.log.extend(("skip", name) for name in skipped)
                    for deed in right.log:
                        desk.do(deed)
                    self.assertEqual(
                        (desk.state(), desk.evenest(), len(desk.can_be())),
                        (right.state(), right.evenest(), len(right.left())),
                    )


if __name__ == "__main__":
    unittest.main()
