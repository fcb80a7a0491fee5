"""Patches and one false answer, in closed form (p3, p4)."""

from firstbreak.errors import BadState


def fewest_patches(n):
    """The fewest tests for n patches and one false answer."""
    q = 0
    while n * (q + 1) + odd_surplus(n, q) > 1 << q:
        q += 1
    return q


def odd_surplus(n, q):
    """What an odd number of patches needs in addition, as it cannot be halved."""
    return q - 1 if n & 1 else 0


def least_tests(a, b):
    """The least q with which a patches not contradicted and b contradicted once are not too heavy."""
    q = 0
    while a * (q + 1) + b > 1 << q:
        q += 1
    return q


def next_numbers(a, b):
    """How many of a patches not contradicted, and of b contradicted once, are to be tested."""
    if a + b <= 1:
        raise BadState()
    if a >= 2 and b == 0:
        return (a + 1) // 2, 0
    if b < a - 1:
        raise BadState()
    if a & 1:
        return (a + 1) // 2, max(0, (b - least_tests(a, b) + 1) // 2)
    return a // 2, b // 2
