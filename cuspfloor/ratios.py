"""Fractions: pairs of integers without a common divisor, and what matrices make of them."""

from math import gcd

from cuspfloor.errors import BadFraction
from cuspfloor.matrices import IDENTITY, check_matrix, is_pair
from cuspfloor.words import quotients


def is_fraction(value):
    """Tell if a value is a fraction."""
    if not is_pair(value):
        return False
    p, q = value
    if q == 0:
        return p == 1
    return q > 0 and gcd(p, q) == 1


def check_fraction(fraction):
    """Raise BadFraction if the argument is not a fraction."""
    if not is_fraction(fraction):
        raise BadFraction("not a fraction")


def taken(matrix, fraction):
    """Return the fraction to which a matrix takes a fraction."""
    check_matrix(matrix)
    check_fraction(fraction)
    (a, b), (c, d) = matrix
    p, q = fraction
    top = a * p + b * q
    low = c * p + d * q
    # The determinant leaves no common divisor, so with low = 0 the other number is 1 or -1.
    if low < 0 or (low == 0 and top < 0):
        return (-top, -low)
    return (top, low)


def matrix_of_fraction(fraction):
    """Return the matrix that takes (1, 0) to a fraction and has a last entry below the second number."""
    check_fraction(fraction)
    p, q = fraction
    if q == 0:
        return IDENTITY
    # The last two fractions of a path have the determinant 1 or -1, so p * low is 1 or -1 modulo q, and p * y is 1.
    _, low = _beginnings(p, q)[-2]
    y = p * low * low % q
    return ((p, (p * y - 1) // q), (q, y))


def path(fraction):
    """Yield (1, 0) and the values of the beginnings of the continued fraction, the last of which is the fraction."""
    check_fraction(fraction)
    p, q = fraction
    yield from _beginnings(p, q)


def _beginnings(p, q):
    """Return the list of (1, 0) and the values of the beginnings of the continued fraction of p / q."""
    before, last = (0, 1), (1, 0)
    found = [last]
    for number in quotients(p, q):
        before, last = last, (number * last[0] + before[0], number * last[1] + before[1])
        found.append(last)
    return found
