"""Promises [2] to [7]: matrices, normal form, product, inverse, power and order."""

import copy
import unittest

from cuspfloor import matrices
from cuspfloor.errors import BadMatrix, BadNumber
from cuspfloor.matrices import F, IDENTITY, R, S, T, inverse, is_matrix, normal, order, power, product
from support import (HUGE, NO_MATRICES, OTHER_DETERMINANTS, STRANGE, multiplied, negative, plain, some_matrices, times,
                     undone)

MATRICES = some_matrices()
FEW = MATRICES[::23] + MATRICES[-9:]


class Constants(unittest.TestCase):
    def test_values(self):
        self.assertEqual(matrices.IDENTITY, ((1, 0), (0, 1)))
        self.assertEqual(matrices.S, ((0, -1), (1, 0)))
        self.assertEqual(matrices.R, ((0, -1), (1, 1)))
        self.assertEqual(matrices.T, ((1, 1), (0, 1)))
        self.assertEqual(matrices.F, ((1, 0), (1, 1)))

    def test_what_the_document_says_of_them(self):
        self.assertEqual(product(S, S), IDENTITY)
        self.assertEqual(product(R, R, R), IDENTITY)
        self.assertEqual(product(S, R), T)
        self.assertEqual(product(S, inverse(R)), F)

    def test_example(self):
        self.assertEqual((product(S, R), inverse(R), power(F, -2), order(R), normal(((0, 1), (-1, 0)))),
                         (((1, 1), (0, 1)), ((-1, -1), (1, 0)), ((-1, 0), (2, -1)), 3, ((0, -1), (1, 0))))


class IsMatrix(unittest.TestCase):
    def test_matrices(self):
        for matrix in MATRICES + [IDENTITY, S, R, T, F]:
            self.assertIs(is_matrix(matrix), True, matrix)

    def test_negatives(self):
        for matrix in MATRICES:
            self.assertIs(is_matrix(negative(matrix)), False, matrix)

    def test_other_values(self):
        for value in NO_MATRICES + OTHER_DETERMINANTS:
            self.assertIs(is_matrix(value), False, value)

    def test_by_name(self):
        self.assertIs(is_matrix(value=T), True)


class Normal(unittest.TestCase):
    def test_matrix_and_negative(self):
        for matrix in MATRICES:
            self.assertEqual(normal(matrix), matrix)
            self.assertEqual(normal(negative(matrix)), matrix)

    def test_edges(self):
        self.assertEqual(normal(((-1, 0), (0, -1))), ((1, 0), (0, 1)))
        self.assertEqual(normal(((-1, 5), (0, -1))), ((1, -5), (0, 1)))
        self.assertEqual(normal(((1, -5), (0, 1))), ((1, -5), (0, 1)))
        self.assertEqual(normal(((3, -1), (-2, 1))), ((-3, 1), (2, -1)))
        self.assertEqual(normal(((-HUGE, 1), (-1, 0))), ((HUGE, -1), (1, 0)))

    def test_kinds_of_the_result(self):
        for rows in (((-1, 0), (0, -1)), T):
            result = normal(rows)
            self.assertEqual([type(x) for x in (result, *result, *result[0], *result[1])], [tuple] * 3 + [int] * 4)

    def test_wrong_values(self):
        for rows in NO_MATRICES + OTHER_DETERMINANTS:
            with self.assertRaises(BadMatrix):
                normal(rows)

    def test_by_name(self):
        self.assertEqual(normal(rows=negative(S)), S)
        with self.assertRaises(BadMatrix):
            normal(rows=None)


class Product(unittest.TestCase):
    def test_none_and_one(self):
        self.assertEqual(product(), IDENTITY)
        for matrix in MATRICES:
            self.assertEqual(product(matrix), matrix)

    def test_two(self):
        for one in FEW:
            for other in FEW:
                self.assertEqual(product(one, other), plain(times(one, other)))

    def test_several(self):
        for at in range(len(FEW) - 5):
            self.assertEqual(product(*FEW[at:at + 5]), multiplied(FEW[at:at + 5]))
        self.assertEqual(product(*[T] * 300), ((1, 300), (0, 1)))
        self.assertEqual(product(S, T, F), ((-1, -1), (2, 1)))
        self.assertEqual(product(F, T, S), ((1, -1), (2, -1)))

    def test_wrong_at_each_place(self):
        for wrong in (None, negative(T), [[1, 0], [0, 1]], ((True, 0), (0, 1))):
            for at in range(4):
                given = [T, F, S, R]
                given[at] = wrong
                with self.assertRaises(BadMatrix):
                    product(*given)

    def test_wrong_values(self):
        for value in NO_MATRICES + OTHER_DETERMINANTS:
            with self.assertRaises(BadMatrix):
                product(value)

    def test_nothing_is_multiplied_before_all_are_checked(self):
        with self.assertRaises(BadMatrix):
            product(*[T] * 2000, [T])


class Inverse(unittest.TestCase):
    def test_both_products(self):
        for matrix in MATRICES:
            self.assertEqual(inverse(matrix), undone(matrix))
            self.assertTrue(is_matrix(inverse(matrix)))
            self.assertEqual(product(matrix, inverse(matrix)), IDENTITY)
            self.assertEqual(product(inverse(matrix), matrix), IDENTITY)

    def test_edges(self):
        self.assertEqual(inverse(IDENTITY), IDENTITY)
        self.assertEqual(inverse(S), S)
        self.assertEqual(inverse(T), ((1, -1), (0, 1)))
        self.assertEqual(inverse(((1, HUGE), (0, 1))), ((1, -HUGE), (0, 1)))

    def test_wrong_values(self):
        for value in NO_MATRICES + OTHER_DETERMINANTS + [negative(T)]:
            with self.assertRaises(BadMatrix):
                inverse(value)

    def test_by_name(self):
        self.assertEqual(inverse(matrix=F), ((-1, 0), (1, -1)))


class Power(unittest.TestCase):
    def test_every_exponent(self):
        for matrix in (T, F, S, R, IDENTITY, ((2, 1), (1, 1)), ((-3, 1), (2, -1))):
            up = down = IDENTITY
            for exponent in range(201):
                self.assertEqual(power(matrix, exponent), up)
                self.assertEqual(power(matrix, -exponent), down)
                up = plain(times(up, matrix))
                down = plain(times(down, undone(matrix)))

    def test_edges(self):
        self.assertEqual(power(T, 200), ((1, 200), (0, 1)))
        self.assertEqual(power(T, -200), ((1, -200), (0, 1)))
        self.assertEqual(power(F, 200), ((1, 0), (200, 1)))
        self.assertEqual(power(((1, HUGE), (0, 1)), -200), ((1, -200 * HUGE), (0, 1)))
        for matrix in MATRICES:
            self.assertEqual(power(matrix, 0), IDENTITY)
            self.assertEqual(power(matrix, 1), matrix)
            self.assertEqual(power(matrix, -1), undone(matrix))

    def test_wrong_exponents(self):
        for exponent in STRANGE + [-201, 201, HUGE, -HUGE, "1", "", (1,), ()]:
            with self.assertRaises(BadNumber) as caught:
                power(T, exponent)
            self.assertIs(caught.exception.value, exponent)

    def test_wrong_matrices(self):
        for value in NO_MATRICES + OTHER_DETERMINANTS + [negative(T)]:
            with self.assertRaises(BadMatrix):
                power(value, 1)

    def test_both_wrong(self):
        for exponent in (201, True, None):
            with self.assertRaises(BadMatrix):
                power(negative(T), exponent)

    def test_by_name(self):
        self.assertEqual(power(exponent=3, matrix=T), ((1, 3), (0, 1)))
        with self.assertRaises(BadNumber):
            power(exponent=201, matrix=T)


class Order(unittest.TestCase):
    def test_values(self):
        self.assertEqual([order(matrix) for matrix in (IDENTITY, S, R, inverse(R), T, F)], [1, 2, 3, 3, 0, 0])
        self.assertEqual(order(((-2, -5), (1, 2))), 2)
        self.assertEqual(order(((-1, -3), (1, 2))), 3)
        self.assertEqual(order(((1, -3), (1, -2))), 3)
        self.assertEqual(order(((1, 1), (1, 2))), 0)
        for exponent in (1, -1, 2, -3, HUGE):
            self.assertEqual(order(((1, exponent), (0, 1))), 0)
        large = 10 ** 199 + 7
        self.assertEqual(order(((large, -1 - large * large), (1, -large))), 2)
        self.assertEqual(order(((large, -1 - large * (large - 1)), (1, 1 - large))), 3)

    def test_least_power_that_is_the_identity(self):
        for matrix in MATRICES:
            powers = [multiplied([matrix] * k) for k in (1, 2, 3)]
            least = powers.index(IDENTITY) + 1 if IDENTITY in powers else 0
            self.assertEqual(order(matrix), least, matrix)

    def test_wrong_values(self):
        for value in NO_MATRICES + OTHER_DETERMINANTS + [negative(T)]:
            with self.assertRaises(BadMatrix):
                order(value)

    def test_by_name(self):
        self.assertEqual(order(matrix=S), 2)


class GeneralRules(unittest.TestCase):
    def test_arguments_stay_as_they_are(self):
        for function in (is_matrix, normal, product, inverse, order):
            for value in ([[1, 0], [0, 1]], ([1, 0], [0, 1]), {"a": [1]}):
                before = copy.deepcopy(value)
                try:
                    function(value)
                except BadMatrix:
                    pass
                self.assertEqual(value, before)

    def test_equal_calls_have_equal_results(self):
        for matrix in FEW:
            for function in (is_matrix, normal, product, inverse, order):
                self.assertEqual(function(matrix), function(matrix))
            self.assertEqual(power(matrix, 7), power(matrix, 7))


if __name__ == "__main__":
    unittest.main()
