"""Hunts for the one patch that breaks a program (p5)."""

from firstbreak.errors import BadState
from firstbreak.patches import fewest_patches, least_tests, next_numbers


class Hunt:
    """A hunt over patches, at most one answer being false."""

    def __init__(self, n):
        # What was left at first and behind each answer, for undo.
        self._moments = [(tuple(range(n)), ())]

    def test(self):
        """The patches to be tested together, ascending."""
        whole, once = self.left()
        x, y = self._numbers()
        return merged(whole[:x], once[:y])

    def tell(self, broken):
        """Take the answer for the next test."""
        whole, once = self.left()
        x, y = self._numbers()
        if broken:
            self._moments.append((whole[:x], merged(once[:y], whole[x:])))
        else:
            self._moments.append((whole[x:], merged(once[y:], whole[:x])))

    def left(self):
        """The patches not contradicted, and those contradicted once."""
        return self._moments[-1]

    def ended(self):
        """Whether at most one patch is left."""
        return self._many() <= 1

    def found(self):
        """The one patch that is left, -1 if several are or none is."""
        whole, once = self.left()
        return (whole + once)[0] if self._many() == 1 else -1

    def asked(self):
        """How many answers were told."""
        return len(self._moments) - 1

    def most(self):
        """How many more tests are needed at most."""
        if self.ended():
            return 0
        whole, once = self.left()
        # The weight alone does not tell for an odd number at the beginning.
        return least_tests(len(whole), len(once)) if once else fewest_patches(len(whole))

    def undo(self):
        """Take the last answer back."""
        if self.asked() == 0:
            raise BadState()
        self._moments.pop()

    def _many(self):
        """How many patches are left."""
        whole, once = self.left()
        return len(whole) + len(once)

    def _numbers(self):
        """How many of both rows the next test has."""
        whole, once = self.left()
        # That raises BadState just where the hunt has ended: all other numbers that it comes to are right ones.
        return next_numbers(len(whole), len(once))


def merged(row, other):
    """The patches of two rows, ascending."""
    return tuple(sorted(row + other))
