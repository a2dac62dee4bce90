"""Promise [11]: fractions, what matrices make of them, their matrices and their paths."""

import unittest
from fractions import Fraction
from math import gcd

from cuspfloor.errors import BadFraction, BadMatrix
from cuspfloor.ratios import is_fraction, matrix_of_fraction, path, taken
from support import (F, HUGE, IDENTITY, NO_MATRICES, R, S, STRANGE, T, multiplied, negative, scattered, some_matrices, undone)

MATRICES = some_matrices()
SMALL = [(1, 0)] + [(p, q) for q in range(1, 16) for p in range(-31, 32) if gcd(p, q) == 1]


def large_fractions():
    """Fractions with numbers of 40 to some hundred digits, some of them below 0."""
    found = [(HUGE, 1), (-HUGE, 1), (1, HUGE), (-1, HUGE), (HUGE, HUGE + 1), (-HUGE, HUGE - 1), (3 ** 700, 2 ** 1000)]
    for digits in (20, 40, 60, 150, 390):
        row = [int("".join(map(str, scattered(digits, 10, digits + seed)))) for seed in range(6)]
        for p, q in zip(row[::2], row[1::2]):
            value = Fraction(p, max(1, q))
            found.extend([(value.numerator, value.denominator), (-value.numerator, value.denominator)])
    first, second = 1, 1
    for _ in range(1800):
        first, second = second, first + second
    return found + [(first, second), (second, first), (-second, first)]


LARGE = large_fractions()

NO_PAIRS = STRANGE + [0, 1, HUGE, "", "1", "10", "1/2", (), (1,), (1, 0, 0), (1, 2, 1), [1, 2], [1, 0], {1: 2}, ((1, 2),),
                      ((1, 0), (0, 1)), (1, None), (None, 1), ("1", 2), (1, "2"), ((1,), 2), (1, (2,)), (b"1", 2), (1, [2]),
                      (True, 2), (1, True), (True, True), (False, 1), (True, 0), (1, False), (True, False), (None, None),
                      (1.0, 2), (1, 2.0), Fraction(1, 2)]

NO_FRACTIONS = NO_PAIRS + [
    (0, 0), (0, 2), (0, HUGE), (2, 0), (-1, 0), (-2, 0), (HUGE, 0), (0, -1), (1, -1), (1, -2), (-1, -2), (3, -1), (2, 2), (2, 4),
    (-2, 4), (6, 9), (-6, 9), (3, 3), (-3, 3), (10, 5), (HUGE, HUGE), (2 * HUGE, 2), (HUGE, 2 * HUGE), (HUGE, -1), (1, -HUGE),
    (2 ** 130, 2 * 3 ** 80), (5 * 3 ** 700, 5 * 2 ** 900), (10 ** 39, 10 ** 38)]


def is_normal_pair(pair):
    return type(pair) is tuple and [type(x) for x in pair] == [int, int]


class IsFraction(unittest.TestCase):
    def test_fractions(self):
        for fraction in SMALL + LARGE + [(0, 1), (1, 1), (-1, 1), (1, 2), (-1, 2), (10 ** 39, 10 ** 39 + 1)]:
            self.assertIs(is_fraction(fraction), True, fraction)

    def test_other_values(self):
        for value in NO_FRACTIONS:
            self.assertIs(is_fraction(value), False, value)

    def test_all_small_pairs(self):
        for p in range(-30, 31):
            for q in range(-12, 13):
                expected = (p, q) == (1, 0) or (q > 0 and Fraction(p, q).denominator == q)
                self.assertIs(is_fraction((p, q)), expected, (p, q))

    def test_large_pairs_with_common_divisors(self):
        for p, q in LARGE:
            for divisor in (2, 3, -1, 10 ** 9 + 7):
                self.assertIs(is_fraction((p * divisor, q * divisor)), False)

    def test_by_name(self):
        self.assertIs(is_fraction(value=(1, 2)), True)
        self.assertIs(is_fraction(value=(2, 4)), False)


class Taken(unittest.TestCase):
    def test_example(self):
        self.assertEqual((matrix_of_fraction((3, 2)), taken(((3, 1), (2, 1)), (1, 0)), list(path((5, 3)))),
                         (((3, 1), (2, 1)), (3, 2), [(1, 0), (1, 1), (2, 1), (5, 3)]))

    def test_values(self):
        for matrix, fraction, result in [
                (IDENTITY, (2, 3), (2, 3)), (S, (1, 0), (0, 1)), (S, (0, 1), (1, 0)), (S, (2, 3), (-3, 2)), (S, (-2, 3), (3, 2)),
                (R, (1, 0), (0, 1)), (R, (0, 1), (-1, 1)), (R, (-1, 1), (1, 0)), (T, (1, 0), (1, 0)), (T, (-1, 2), (1, 2)),
                (T, (-1, 1), (0, 1)), (F, (1, 0), (1, 1)), (F, (-1, 1), (1, 0)), (F, (-1, 2), (-1, 1)), (F, (-2, 1), (2, 1)),
                (((1, HUGE), (0, 1)), (0, 1), (HUGE, 1)), (((1, 0), (HUGE, 1)), (1, 0), (1, HUGE))]:
            self.assertEqual(taken(matrix, fraction), result, (matrix, fraction))

    def test_as_the_value_of_the_fraction(self):
        for (a, b), (c, d) in MATRICES:
            for p, q in SMALL[::19] + LARGE[::9]:
                found = taken(((a, b), (c, d)), (p, q))
                self.assertTrue(is_normal_pair(found))
                low = c * p + d * q
                if low == 0:
                    self.assertEqual(found, (1, 0))
                else:
                    value = Fraction(a * p + b * q, low)
                    self.assertEqual(found, (value.numerator, value.denominator))

    def test_product_from_right_to_left(self):
        some = MATRICES[::29] + MATRICES[-9:]
        for one in some:
            for other in some:
                for fraction in [(1, 0), (0, 1), (-3, 2), (5, 7), (HUGE, 6)]:
                    self.assertEqual(taken(multiplied([one, other]), fraction), taken(one, taken(other, fraction)))

    def test_inverse(self):
        for matrix in MATRICES:
            for fraction in SMALL[::37] + LARGE[::11]:
                self.assertEqual(taken(undone(matrix), taken(matrix, fraction)), fraction)

    def test_wrong_matrices(self):
        for value in NO_MATRICES + [negative(T), ((1, 2), (3, 4))]:
            with self.assertRaises(BadMatrix):
                taken(value, (1, 2))
            with self.assertRaises(BadMatrix):
                taken(value, (2, 4))

    def test_wrong_fractions(self):
        for value in NO_FRACTIONS:
            with self.assertRaises(BadFraction):
                taken(T, value)

    def test_by_name(self):
        self.assertEqual(taken(fraction=(-1, 2), matrix=T), (1, 2))
        with self.assertRaises(BadMatrix):
            taken(fraction=(2, 4), matrix=negative(T))
        with self.assertRaises(BadFraction):
            taken(fraction=(2, 4), matrix=T)


class MatrixOfFraction(unittest.TestCase):
    def test_values(self):
        for fraction, matrix in [((1, 0), IDENTITY), ((0, 1), S), ((5, 1), ((5, -1), (1, 0))), ((-5, 1), ((-5, -1), (1, 0))),
                                 ((1, 2), ((1, 0), (2, 1))), ((3, 2), ((3, 1), (2, 1))), ((-1, 2), ((-1, -1), (2, 1))),
                                 ((2, 3), ((2, 1), (3, 2))), ((1, 3), ((1, 0), (3, 1))), ((5, 3), ((5, 3), (3, 2))),
                                 ((-1, 3), ((-1, -1), (3, 2))), ((1, HUGE), ((1, 0), (HUGE, 1)))]:
            self.assertEqual(matrix_of_fraction(fraction), matrix, fraction)

    def test_what_the_document_asks_for(self):
        for p, q in SMALL + LARGE:
            found = matrix_of_fraction((p, q))
            (a, x), (c, y) = found
            self.assertEqual((a, c), (p, q))
            self.assertEqual(p * y - q * x, 1)
            self.assertTrue((p, q, y) == (1, 0, 1) or 0 <= y <= q - 1, (p, q))
            self.assertTrue(type(found) is tuple and all(is_normal_pair(row) for row in found))
            self.assertEqual(taken(found, (1, 0)), (p, q))

    def test_wrong_values(self):
        for value in NO_FRACTIONS:
            with self.assertRaises(BadFraction):
                matrix_of_fraction(value)

    def test_by_name(self):
        self.assertEqual(matrix_of_fraction(fraction=(3, 2)), ((3, 1), (2, 1)))


def beginnings(p, q):
    """The path by the numbers of [9] and exact fractions, each beginning worked out on its own."""
    if q == 0:
        return [(1, 0)]
    numbers = []
    value = Fraction(p, q)
    while not numbers or value != numbers[-1]:
        value = value if not numbers else 1 / (value - numbers[-1])
        numbers.append(value.numerator // value.denominator)
    found = [(1, 0)]
    for last in range(len(numbers)):
        value = Fraction(numbers[last])
        for number in numbers[:last][::-1]:
            value = number + 1 / value
        found.append((value.numerator, value.denominator))
    return found


class Path(unittest.TestCase):
    def test_values(self):
        for fraction, expected in [
                ((1, 0), [(1, 0)]), ((0, 1), [(1, 0), (0, 1)]), ((1, 1), [(1, 0), (1, 1)]), ((7, 1), [(1, 0), (7, 1)]),
                ((-7, 1), [(1, 0), (-7, 1)]), ((HUGE, 1), [(1, 0), (HUGE, 1)]), ((1, 2), [(1, 0), (0, 1), (1, 2)]),
                ((-1, 2), [(1, 0), (-1, 1), (-1, 2)]), ((2, 3), [(1, 0), (0, 1), (1, 1), (2, 3)]),
                ((-2, 3), [(1, 0), (-1, 1), (-2, 3)]), ((5, 3), [(1, 0), (1, 1), (2, 1), (5, 3)]),
                ((-5, 3), [(1, 0), (-2, 1), (-5, 3)]), ((7, 5), [(1, 0), (1, 1), (3, 2), (7, 5)]),
                ((-7, 5), [(1, 0), (-2, 1), (-1, 1), (-3, 2), (-7, 5)])]:
            self.assertEqual(list(path(fraction)), expected, fraction)

    def test_as_the_document_says(self):
        for fraction in SMALL + [fraction for fraction in LARGE if fraction[1] < 10 ** 70]:
            self.assertEqual(list(path(fraction)), beginnings(*fraction), fraction)

    def test_ends_and_neighbours(self):
        for fraction in SMALL + LARGE:
            found = list(path(fraction))
            self.assertEqual((found[0], found[-1]), ((1, 0), fraction))
            self.assertTrue(all(is_normal_pair(pair) for pair in found))
            for (a, c), (b, d) in zip(found, found[1:]):
                self.assertIn(a * d - b * c, (1, -1))
            self.assertEqual(len(set(found)), len(found))

    def test_a_generator(self):
        one, other = path((5, 3)), path((5, 3))
        self.assertIs(iter(one), one)
        self.assertEqual([next(one), next(one), next(other), next(one), next(other)],
                         [(1, 0), (1, 1), (1, 0), (2, 1), (1, 1)])
        self.assertEqual((list(one), list(other)), ([(5, 3)], [(2, 1), (5, 3)]))

    def test_wrong_values_when_the_first_item_is_requested(self):
        for value in NO_FRACTIONS:
            found = path(value)
            with self.assertRaises(BadFraction):
                next(found)

    def test_by_name(self):
        self.assertEqual(list(path(fraction=(3, 2))), [(1, 0), (1, 1), (3, 2)])


if __name__ == "__main__":
    unittest.main()
