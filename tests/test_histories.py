import unittest

import plain
from firstbreak.errors import BadHistory
from firstbreak.histories import ancestors, check_history, offspring


def named(*makes):
    return ("history", tuple(makes))


class Checks(unittest.TestCase):
    def refused(self, thing, reason):
        with self.assertRaises(BadHistory) as caught:
            check_history(thing)
        self.assertEqual((caught.exception.line, caught.exception.reason), (0, reason), thing)

    def test_right_ones(self):
        for history in plain.SAMPLES + [plain.chain(24), plain.fan(24)]:
            self.assertIsNone(check_history(history))
        self.assertIsNone(check_history(named(("a", ()))))
        self.assertIsNone(check_history(named(("abcdefgh", ()), ("z", (0,)))))
        self.assertIsNone(check_history(named(("make", ()), ("from", (0,)))))
        self.assertIsNone(check_history(plain.history_of((), (), (), (), (0, 1, 2, 3))))
        self.assertIsNone(check_history(plain.history_of((), (), (), (), (0, 1, 2, 3), (0, 1, 3, 4))))

    def test_other_shapes(self):
        make = ("a", ())
        for thing in (
            None, 5, "history", True, (), [], {}, ("history",), ("makes", (make,)), ("History", (make,)),
            (None, (make,)), (("history",), (make,)), ["history", (make,)], ("history", [make]),
            ("history", (make,), ()), ("history", None), ("history", "a"), ("history", 3), ("history", make),
            ("history", {"a": ()}), (make,), ("history", (make,), (make,)),
        ):
            self.refused(thing, "not a history")

    def test_other_shapes_of_makes(self):
        for make in (
            None, 5, "a", "ab", True, (), ("a",), ("a", (), ()), ["a", ()], ("a", []), ("a", None), ("a", 0), ("a", ""),
            (5, ()), (None, ()), (b"a", ()), (("a",), ()), (["a"], ()), ((), "a"), ("a", ("b",)), ("a", (None,)),
            ("a", ((),)), ("a", (True,)), ("a", (False,)), ("a", (0, True)), ("a", ([0],)), ("a", {0: 1}), ("a", (0.0,)),
        ):
            self.refused(named(make), "not a history")
            self.refused(named(("b", ()), make), "not a history")

    def test_number_of_makes(self):
        self.refused(("history", ()), "no makes")
        names = [f"a{letter}" for letter in "abcdefghijklmnopqrstuvwxyz"]
        for many in (25, 26):
            makes = tuple((names[at], (at - 1,) if at else ()) for at in range(many))
            self.refused(("history", makes), "too many makes")

    def test_names(self):
        for name in ("", "abcdefghi", "A", "aB", "a1", "1", "a b", " a", "a ", "a-b", "a\n", "\t", "\xe4", "a_", "{", "`"):
            self.refused(named((name, ())), "bad name")
            self.refused(named(("a", ()), (name, (0,))), "bad name")
        self.refused(named(("a", ()), ("a", (0,))), "two of a name")
        self.refused(named(("a", ()), ("b", (0,)), ("a", (1,))), "two of a name")

    def test_parents(self):
        for parents in (
            (2,), (3,), (-1,), (0, 2), (-1, 0), (0, 0), (1, 0), (1, 1), (0, 1, 1), (9,), (-2, -1, 0, 1), (10 ** 30,),
        ):
            self.refused(named(("a", ()), ("b", ()), ("c", parents), ("d", (0, 1, 2))), "bad parents")
        self.refused(named(("a", (0,))), "bad parents")
        self.refused(plain.history_of((), (), (), (), (), (0, 1, 2, 3, 4)), "bad parents")

    def test_not_of_the_last(self):
        self.refused(plain.history_of((), ()), "not of the last")
        self.refused(plain.history_of((), (0,), (0,)), "not of the last")
        self.refused(plain.history_of((), (), (), (0, 2)), "not of the last")
        self.refused(plain.history_of((), (), (1,), (1, 2)), "not of the last")

    def test_what_comes_first(self):
        many = tuple(("A", (0,)) for _ in range(25))
        self.refused(("history", many), "too many makes")
        self.refused(("history", many + (("a", None),)), "not a history")
        self.refused(named(("A", (5,)), ("a", [])), "not a history")
        self.refused(named(("A", (5,))), "bad name")
        self.refused(named(("a", ()), ("a", (5,))), "two of a name")
        self.refused(named(("a", (5,)), ("A", ())), "bad parents")
        self.refused(named(("a", ()), ("a", ()), ("A", ())), "two of a name")
        self.refused(named(("a", ()), ("A", ()), ("a", ())), "bad name")
        self.refused(named(("a", ()), ("b", ()), ("A", (1,))), "bad name")
        self.refused(named(("a", ()), ("b", ()), ("b", (1,))), "two of a name")
        self.refused(named(("a", ()), ("b", ()), ("c", (2,))), "bad parents")


class Walks(unittest.TestCase):
    def compare(self, history):
        for m in plain.indices(history):
            self.assertEqual(ancestors(history, m), tuple(sorted(plain.walk(history, m))))
            below = tuple(at for at in plain.indices(history) if m in plain.walk(history, at))
            self.assertEqual(offspring(history, m), below)

    def test_all_small_histories(self):
        for history in plain.SAMPLES + plain.all_histories(5):
            self.compare(history)

    def test_great_ones(self):
        for history in (plain.chain(24), plain.fan(24)):
            self.compare(history)

    def test_by_hand(self):
        history = plain.history_of((), (0,), (0,), (1, 2))
        self.assertEqual([ancestors(history, m) for m in range(4)], [(0,), (0, 1), (0, 2), (0, 1, 2, 3)])
        self.assertEqual([offspring(history, m) for m in range(4)], [(0, 1, 2, 3), (1, 3), (2, 3), (3,)])


if __name__ == "__main__":
    unittest.main()
