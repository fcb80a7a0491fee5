import unittest

import plain
from firstbreak.classes import check_skipped, classes, tests


class Skipped(unittest.TestCase):
    def test_right_ones(self):
        for history in plain.SAMPLES:
            for skipped in plain.subsets(plain.indices(history)):
                self.assertIs(check_skipped(history, skipped), True)
        self.assertIs(check_skipped(plain.chain(24), tuple(range(24))), True)

    def test_anything_else(self):
        history = plain.chain(3)
        for thing in (
            None, 0, True, "", "0", [], [0], {}, {0: 1}, (True,), (False,), (0, True), (False, 1), (None,), ("0",),
            ("a",), ((0,),), ([0],), (0, "1"), (0.0,), (3,), (-1,), (0, 3), (-1, 0), (0, 0), (1, 0), (0, 2, 1), (1, 1, 2),
            (0, 1, 2, 3), (10 ** 30,), b"", b"\x00", ((),),
        ):
            self.assertIs(check_skipped(history, thing), False, thing)


class Classes(unittest.TestCase):
    def test_against_the_definition(self):
        for history in plain.SAMPLES:
            for skipped in plain.subsets(plain.indices(history)):
                self.assertEqual(classes(history, skipped), plain.plain_classes(history, skipped))
                self.assertEqual(tests(history, skipped), plain.plain_tests(history, skipped))

    def test_without_skipped_makes(self):
        for history in (plain.chain(24), plain.fan(24)):
            self.assertEqual(classes(history, ()), tuple((c,) for c in range(24)))
            self.assertEqual(tests(history, ()), tuple(range(23)))

    def test_all_skipped(self):
        for history in plain.SAMPLES:
            everything = tuple(plain.indices(history))
            self.assertEqual(classes(history, everything), (everything,))
            self.assertEqual(tests(history, everything), ())

    def test_by_hand(self):
        history = plain.history_of((), (0,), (0,), (1, 2))
        self.assertEqual(classes(history, (3,)), ((0,), (1,), (2,), (3,)))
        self.assertEqual(tests(history, (3,)), (0, 1, 2))
        self.assertEqual(classes(history, (0, 1)), ((0, 2), (1, 3)))
        self.assertEqual(tests(history, (0, 1)), (2,))
        self.assertEqual(classes(history, (1, 2)), ((0,), (1, 2, 3)))
        self.assertEqual(tests(history, (1, 2)), (0,))


if __name__ == "__main__":
    unittest.main()
