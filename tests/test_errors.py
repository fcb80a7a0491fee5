import unittest

from firstbreak.errors import BadAnswer, BadHistory, BadState, BreakError, TooGreat

OWN = (BadHistory, BadAnswer, BadState, TooGreat)


class Errors(unittest.TestCase):
    def test_attributes(self):
        error = BadHistory(3, "bad name")
        self.assertEqual((error.line, error.reason), (3, "bad name"))
        error = BadHistory(line=0, reason="no makes")
        self.assertEqual((error.line, error.reason), (0, "no makes"))
        self.assertEqual(BadAnswer(7).place, 7)
        self.assertEqual(BadAnswer(place=400).place, 400)

    def test_made_without_arguments(self):
        for kind in (BadState, TooGreat):
            with self.assertRaises(kind):
                raise kind()

    def test_which_is_under_which(self):
        self.assertEqual(BreakError.__bases__, (ValueError,))
        for kind in OWN:
            self.assertEqual(kind.__bases__, (BreakError,))
            for other in OWN:
                self.assertEqual(issubclass(kind, other), kind is other)

    def test_caught_as_the_common_one(self):
        for error in (BadHistory(1, "no makes"), BadAnswer(0), BadState(), TooGreat()):
            with self.assertRaises(BreakError):
                raise error


if __name__ == "__main__":
    unittest.main()
