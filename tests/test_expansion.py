"""Promise [9]: the expansion of a matrix."""

import unittest
from fractions import Fraction

from cuspfloor.errors import BadMatrix
from cuspfloor.words import expansion
from support import (F, HUGE, IDENTITY, NO_MATRICES, OTHER_DETERMINANTS, R, S, T, multiplied, negative, some_matrices, times,
                     undone)

MATRICES = some_matrices()


def sign(number):
    return (number > 0) - (number < 0)


def power_of(letter, exponent):
    return {"T": ((1, exponent), (0, 1)), "F": ((1, 0), (exponent, 1)), "S": S}[letter]


def numbers_of(top, low):
    """k(0), ..., k(m) of [9], by exact fractions."""
    value = Fraction(top, low)
    found = [value.numerator // value.denominator]
    while value != found[-1]:
        value = 1 / (value - found[-1])
        found.append(value.numerator // value.denominator)
    return found


def expected(matrix):
    """The expansion, with the last exponent by multiplication with the inverse of the other powers."""
    (a, b), (c, _) = matrix
    if c == 0:
        pairs = [("T", b)]
    else:
        pairs = [("TF"[at % 2], number) for at, number in enumerate(numbers_of(a, c))]
        if len(pairs) % 2 == 1:
            pairs.append(("S", 1))
        rest = times(undone(multiplied([power_of(*pair) for pair in pairs])), matrix)
        (one, last), (zero, same) = rest if rest[0][0] > 0 else negative(rest)
        assert (one, zero, same) == (1, 0, 1)
        pairs.append(("T", last))
    return tuple(pair for pair in pairs if pair[1] != 0)


class Expansion(unittest.TestCase):
    def test_examples(self):
        self.assertEqual(expansion(((3, 1), (2, 1))), (("T", 1), ("F", 2)))
        self.assertEqual(expansion(((0, -1), (1, 1))), (("S", 1), ("T", 1)))

    def test_values(self):
        for matrix, pairs in [
                (IDENTITY, ()), (T, (("T", 1),)), (((1, -1), (0, 1)), (("T", -1),)), (((1, 7), (0, 1)), (("T", 7),)),
                (S, (("S", 1),)), (R, (("S", 1), ("T", 1))), (F, (("T", 1), ("S", 1), ("T", 1))),
                (((-1, -1), (1, 0)), (("T", -1), ("S", 1))), (((1, 0), (2, 1)), (("F", 2),)),
                (((-1, 0), (2, -1)), (("T", -1), ("F", 2), ("T", -1))), (((1, 1), (2, 3)), (("F", 2), ("T", 1))),
                (((2, 1), (3, 2)), (("F", 1), ("T", 2), ("S", 1), ("T", 1))),
                (((-3, 1), (2, -1)), (("T", -2), ("F", 2), ("T", -1))), (((5, 2), (2, 1)), (("T", 2), ("F", 2))),
                (((5, 3), (3, 2)), (("T", 1), ("F", 1), ("T", 2), ("S", 1), ("T", 1)))]:
            self.assertEqual(expansion(matrix), pairs, matrix)

    def test_powers_of_t(self):
        for exponent in [1, -1, 2, -2, 1000, -1001, HUGE, -HUGE]:
            self.assertEqual(expansion(((1, exponent), (0, 1))), (("T", exponent),))

    def test_all_matrices(self):
        for matrix in MATRICES:
            self.assertEqual(expansion(matrix), expected(matrix), matrix)

    def test_product_of_the_powers(self):
        for matrix in MATRICES:
            self.assertEqual(multiplied([power_of(*pair) for pair in expansion(matrix)]), matrix)

    def test_every_shape_is_among_them(self):
        shapes = set()
        for (a, _), (c, d) in [matrix for matrix in MATRICES if matrix[1][0] > 0]:
            numbers = numbers_of(a, c)
            last = d // c if len(numbers) % 2 == 0 else -(-d // c)
            shapes.add((len(numbers) % 2, sign(numbers[0]), sign(last)))
        self.assertEqual(len(shapes), 18)

    def test_exponents_of_hundreds_of_digits(self):
        self.assertEqual(expansion(((HUGE, -1), (1, 0))), (("T", HUGE), ("S", 1)))
        self.assertEqual(expansion(((-HUGE, -1), (1, 0))), (("T", -HUGE), ("S", 1)))
        self.assertEqual(expansion(((1, 0), (HUGE, 1))), (("F", HUGE),))
        self.assertEqual(expansion(((0, -1), (1, -HUGE))), (("S", 1), ("T", -HUGE)))
        large = [("T", -3 ** 200), ("F", 7 ** 100), ("T", 5 ** 90), ("F", 2 ** 99), ("T", -11 ** 80)]
        self.assertEqual(expansion(multiplied([power_of(*pair) for pair in large])), tuple(large))

    def test_many_pairs(self):
        # The continued fraction of a / c ends with 2, so the last F and T are put together with an S.
        ones = (("T", 1), ("F", 1)) * 900
        self.assertEqual(expansion(multiplied([T, F] * 900)), ones[:-2] + (("T", 2), ("S", 1), ("T", 1)))
        self.assertEqual(expansion(multiplied([T, F] * 900 + [T])), ones[:-2] + (("T", 2), ("S", 1), ("T", 2)))

    def test_kinds_of_the_result(self):
        for matrix in MATRICES:
            pairs = expansion(matrix)
            self.assertIs(type(pairs), tuple)
            for pair in pairs:
                self.assertEqual([type(pair), type(pair[0]), type(pair[1])], [tuple, str, int])

    def test_wrong_values(self):
        for value in NO_MATRICES + OTHER_DETERMINANTS + [negative(T)]:
            with self.assertRaises(BadMatrix):
                expansion(value)

    def test_by_name(self):
        self.assertEqual(expansion(matrix=T), (("T", 1),))


if __name__ == "__main__":
    unittest.main()
