"""Promises [17] and [31]: expressions in the makers, their matrices, and which of them are reduced."""

import unittest

from cuspfloor.errors import BadExpression, BadFloor, BadMatrix, NotMember, TooLong
from cuspfloor.makers import expressed, expression_matrix, is_reduced, makers
from some_floors import CHAIN, EVEN, FEW, FLOORS, ODD, ONE, SCATTERED, WRONG_FLOORS, follow, full_floor, zero_floor
from support import (F, HUGE, IDENTITY, NO_MATRICES, OTHER_DETERMINANTS, R, STRANGE, T, back, long_word, multiplied, negative,
                     of_letters, scattered, some_matrices, undone, words_up_to)
from test_makers import told_makers, told_roads

NO_TUPLES = STRANGE + [0, 1, -1, HUGE, "", "x", [(0, 1)], [], {}, {0: 1}, {(0, 1)}, b"\x00\x01", iter([(0, 1)]), range(0)]

# None of these is a pair of an index of one of the two makers of EVEN, of the orders 0 and 2, and an exponent of it.
NO_PAIRS_OF_EVEN = STRANGE + [
    0, 1, "", "01", (), (0,), (0, 1, 1), ((0, 1),), [0, 1], [0, -1], (2, 1), (-1, 1), (HUGE, 1), (0, 0), (0, 2), (0, -2), (1, 0),
    (1, 2), (1, -1), (0, HUGE), (0, True), (False, 1), (True, 1), (0, False), (1, True), (None, 1), (0, None), ("0", 1), (0, "1"),
    ((0,), 1), (0, (1,)), ([0], 1), (0, [1]), {0: 1}, (0.0, 1), (0, 1.0)]


def is_told_reduced(orders, pairs):
    """Whether no two neighbours can be joined."""
    for (one, k), (other, j) in zip(pairs, pairs[1:]):
        if one == other and (orders[one] in (2, 3) or k == -j):
            return False
    return True


def pairs_of(floor):
    """All pairs that an expression may have."""
    return [(index, k) for index, (order, _) in enumerate(told_makers(floor)) for k in (1, -1) if k == 1 or order != 2]


def reduced_up_to(floor, length):
    """All reduced expressions with at most so many pairs."""
    orders = [order for order, _ in told_makers(floor)]
    found, row = [()], [()]
    for _ in range(length):
        row = [some + (pair,) for some in row for pair in pairs_of(floor) if is_told_reduced(orders, some[-1:] + (pair,))]
        found.extend(row)
    return found


def scattered_expression(floor, length, seed):
    """A reduced expression with so many pairs that follows no simple pattern."""
    orders = [order for order, _ in told_makers(floor)]
    pairs = pairs_of(floor)
    found = ()
    for number in scattered(length, 10 ** 6, seed):
        fitting = [pair for pair in pairs if is_told_reduced(orders, found[-1:] + (pair,))]
        found = found + (fitting[number % len(fitting)],)
    return found


def told_matrix(floor, pairs):
    """The product of the makers and their inverses."""
    found = [matrix for _, matrix in told_makers(floor)]
    return multiplied([found[index] if k == 1 else undone(found[index]) for index, k in pairs])


def closed_words(floor, length):
    """Some words with so many letters that lead place 0 to itself: a long word, and a road back."""
    found = []
    for seed in range(4):
        for road in told_roads(floor):
            word = long_word(seed % 2 == 0, length - len(road), seed)
            joins = road == "" or (road[-1] == "S") != (word[-1] == "S")
            if joins and follow(floor, 0, word + back(road)) == 0:
                found.append(word + back(road))
    return found


class ExpressionTest(unittest.TestCase):
    def assert_bad_expression(self, index, floor, value):
        with self.assertRaises(BadExpression) as caught:
            expression_matrix(floor, value)
        self.assertEqual(caught.exception.index, index, value)
        self.assertIs(is_reduced(floor, value), False)


class Expressed(ExpressionTest):
    def test_example(self):
        self.assertEqual(expressed(((2, 1, 0), (1, 2, 0)), ((3, 1), (2, 1))), ((0, 1), (0, 1), (1, 1)))

    def test_values(self):
        self.assertEqual(expressed(EVEN, IDENTITY), ())
        self.assertEqual(expressed(EVEN, T), ((0, 1),))
        self.assertEqual(expressed(EVEN, ((1, -3), (0, 1))), ((0, -1),) * 3)
        self.assertEqual(expressed(ONE, of_letters("SRSr")), ((1, 1), (0, 1), (1, 1), (0, -1)))
        self.assertEqual(expressed(((1, 0), (0, 1)), of_letters("RSrSr")), ((0, 1), (1, -1), (0, -1)))

    def test_each_maker(self):
        for floor in FLOORS:
            for index, (order, matrix) in enumerate(told_makers(floor)):
                self.assertEqual(expressed(floor, matrix), ((index, 1),))
                self.assertEqual(expressed(floor, undone(matrix)), ((index, 1 if order == 2 else -1),))

    def test_reduced_expressions_come_back(self):
        for floor in FEW + FLOORS[7:40:4]:
            length = 5 if len(told_makers(floor)) < 3 else 3 if len(told_makers(floor)) < 5 else 2
            for pairs in reduced_up_to(floor, length):
                self.assertEqual(expressed(floor, told_matrix(floor, pairs)), pairs)

    def test_long_reduced_expressions_come_back(self):
        for floor in FLOORS:
            for seed in range(2):
                pairs = scattered_expression(floor, 12, seed)
                self.assertEqual(expressed(floor, told_matrix(floor, pairs)), pairs)

    def test_all_short_members(self):
        for floor in FEW:
            orders = [order for order, _ in told_makers(floor)]
            for word in words_up_to(11):
                if follow(floor, 0, word) == 0:
                    pairs = expressed(floor, of_letters(word))
                    self.assertEqual(told_matrix(floor, pairs), of_letters(word))
                    self.assertTrue(is_told_reduced(orders, pairs))
                    self.assertIs(is_reduced(floor, pairs), True)

    def test_kinds_of_the_result(self):
        for matrix in (IDENTITY, T, ((3, 1), (2, 1))):
            pairs = expressed(EVEN, matrix)
            self.assertIs(type(pairs), tuple)
            for pair in pairs:
                self.assertEqual([type(pair), type(pair[0]), type(pair[1])], [tuple, int, int])

    def test_words_with_exactly_2000_letters(self):
        self.assertEqual(expressed(EVEN, ((1, 1000), (0, 1))), ((0, 1),) * 1000)
        self.assertEqual(expressed(EVEN, ((1, -1000), (0, 1))), ((0, -1),) * 1000)
        for word in ["SR" * 1000, "rS" * 1000, long_word(True, 2000, 1), long_word(False, 2000, 2)]:
            pairs = expressed(ONE, of_letters(word))
            self.assertEqual(pairs, tuple({"S": (1, 1), "R": (0, 1), "r": (0, -1)}[letter] for letter in word))
        for floor in (ODD, zero_floor(5), SCATTERED[3]):
            found = closed_words(floor, 2000)
            self.assertGreater(len(found), 0)
            for word in found:
                matrix = of_letters(word)
                self.assertEqual(told_matrix(floor, expressed(floor, matrix)), matrix)
            for word in closed_words(floor, 2001)[:1]:
                with self.assertRaises(TooLong):
                    expressed(floor, of_letters(word))

    def test_too_long(self):
        for floor, matrix in [(EVEN, ((1, 1001), (0, 1))), (EVEN, ((1, HUGE), (0, 1))), (EVEN, ((1, -1001), (0, 1))),
                              (EVEN, ((1, 0), (HUGE + 1, 1))), (ONE, of_letters("SR" * 1000 + "S")),
                              (ONE, ((1, 0), (HUGE, 1))), (ONE, of_letters("r" + "SR" * 1000))]:
            with self.assertRaises(TooLong) as caught:
                expressed(floor, matrix)
            self.assertEqual(caught.exception.limit, 2000)

    def test_not_a_member(self):
        for floor in FEW:
            for word in words_up_to(7):
                reached = follow(floor, 0, word)
                if reached != 0:
                    with self.assertRaises(NotMember) as caught:
                        expressed(floor, of_letters(word))
                    self.assertEqual(caught.exception.reached, reached)

    def test_not_a_member_ahead_of_too_long(self):
        for matrix, reached in [(((1, 0), (2 * HUGE + 1, 1)), 1), (((1, 0), (1001, 1)), 1), (((0, -1), (1, HUGE)), None),
                                (of_letters("R" + "SR" * 1000), None)]:
            with self.assertRaises(NotMember) as caught:
                expressed(EVEN, matrix)
            if reached is not None:
                self.assertEqual(caught.exception.reached, reached)
        with self.assertRaises(NotMember) as caught:
            expressed(EVEN, of_letters("R" + "SR" * 1000))
        self.assertEqual(caught.exception.reached, follow(EVEN, 0, "R" + "SR" * 1000))

    def test_members_of_some_hundred_digits(self):
        floor = zero_floor(2)
        pairs = ((0, 1), (0, 1), (1, 1)) * 300
        matrix = told_matrix(floor, pairs)
        self.assertGreater(matrix[1][0], 10 ** 100)
        self.assertEqual(expressed(floor, matrix), pairs)

    def test_errors(self):
        for value in NO_MATRICES + OTHER_DETERMINANTS + [negative(T)]:
            with self.assertRaises(BadMatrix):
                expressed(EVEN, value)
            with self.assertRaises(BadFloor):
                expressed(((0, 1), (0, 1)), value)
        for floor, part in WRONG_FLOORS:
            with self.assertRaises(BadFloor) as caught:
                expressed(floor, F)
            self.assertEqual(caught.exception.part, part)

    def test_by_name(self):
        self.assertEqual(expressed(matrix=T, floor=EVEN), ((0, 1),))
        with self.assertRaises(NotMember):
            expressed(matrix=F, floor=EVEN)


class ExpressionMatrix(ExpressionTest):
    def test_short_expressions(self):
        for floor in (ONE, EVEN, ODD, ((1, 0), (0, 1)), ((0, 1, 2), (1, 2, 0)), full_floor(3)):
            pairs = pairs_of(floor)
            self.assertEqual(expression_matrix(floor, ()), IDENTITY)
            for one in pairs:
                self.assertEqual(expression_matrix(floor, (one,)), told_matrix(floor, (one,)))
                for two in pairs:
                    for three in pairs:
                        self.assertEqual(expression_matrix(floor, (one, two, three)), told_matrix(floor, (one, two, three)))

    def test_order_of_the_factors(self):
        self.assertEqual(expression_matrix(EVEN, ((0, 1), (1, 1))), ((1, 0), (2, 1)))
        self.assertEqual(expression_matrix(EVEN, ((1, 1), (0, 1))), ((-1, -2), (2, 3)))
        self.assertEqual(expression_matrix(EVEN, ((0, 1), (0, -1))), IDENTITY)
        self.assertEqual(expression_matrix(EVEN, ((1, 1), (1, 1))), IDENTITY)
        self.assertEqual(expression_matrix(ONE, ((0, 1), (0, 1))), undone(R))
        self.assertEqual(expression_matrix(ONE, ((0, 1),) * 4), R)

    def test_undoes_expressed(self):
        for floor in FEW:
            for matrix in some_matrices()[::5]:
                if max(abs(x) for row in matrix for x in row) < 100:
                    try:
                        pairs = expressed(floor, matrix)
                    except NotMember:
                        continue
                    self.assertEqual(expression_matrix(floor, pairs), matrix)

    def test_2000_and_2001_pairs(self):
        self.assertEqual(expression_matrix(EVEN, ((0, 1),) * 2000), ((1, 2000), (0, 1)))
        self.assertEqual(expression_matrix(EVEN, ((1, 1),) * 2000), IDENTITY)
        self.assertEqual(expression_matrix(ONE, ((1, 1), (0, 1)) * 1000), ((1, 1000), (0, 1)))
        self.assertIs(is_reduced(ONE, ((1, 1), (0, 1)) * 1000), True)
        self.assertIs(is_reduced(EVEN, ((0, 1),) * 2000), True)
        self.assert_bad_expression(None, EVEN, ((0, 1),) * 2001)
        self.assert_bad_expression(None, ONE, ((1, 1), (0, 1)) * 1000 + ((1, 1),))
        self.assert_bad_expression(None, EVEN, (None,) * 2001)
        self.assert_bad_expression(None, EVEN, ((0, 1),) * 9000)

    def test_values_that_are_no_tuples(self):
        for value in NO_TUPLES:
            self.assert_bad_expression(None, EVEN, value)

    def test_wrong_pairs_at_each_place(self):
        for wrong in NO_PAIRS_OF_EVEN:
            self.assert_bad_expression(0, EVEN, (wrong,))
            for at in range(3):
                pairs = [(0, 1), (1, 1), (0, -1)]
                pairs[at] = wrong
                self.assert_bad_expression(at, EVEN, tuple(pairs))

    def test_first_of_several_wrong_pairs(self):
        self.assert_bad_expression(1, EVEN, ((0, 1), (0, 0), None, (2, 1)))
        self.assert_bad_expression(1999, EVEN, ((0, 1),) * 1999 + ((0, 2),))
        self.assert_bad_expression(0, EVEN, (None,) * 2000)
        self.assert_bad_expression(0, EVEN, (0, 1))
        self.assert_bad_expression(1, EVEN, ((0, 1), [0, 1], (0, 1)))

    def test_indexes_and_exponents_by_the_makers_of_the_floor(self):
        for floor in FLOORS[::5]:
            orders = [order for order, _ in told_makers(floor)]
            self.assert_bad_expression(0, floor, ((len(orders), 1),))
            self.assert_bad_expression(0, floor, ((-1, 1),))
            for index, order in enumerate(orders):
                self.assertEqual(expression_matrix(floor, ((index, 1),)), makers(floor)[index][1])
                if order == 2:
                    self.assert_bad_expression(0, floor, ((index, -1),))
                else:
                    self.assertEqual(expression_matrix(floor, ((index, -1),)), undone(makers(floor)[index][1]))
                for exponent in (0, 2, -2, 3, HUGE, True, False, None, "1"):
                    self.assert_bad_expression(0, floor, ((index, exponent),))

    def test_floor_first(self):
        for floor, part in WRONG_FLOORS:
            for value in ((), None, ((0, 0),)):
                with self.assertRaises(BadFloor) as caught:
                    expression_matrix(floor, value)
                self.assertEqual(caught.exception.part, part)

    def test_by_name(self):
        self.assertEqual(expression_matrix(expression=((0, 1),), floor=EVEN), T)
        with self.assertRaises(BadExpression):
            expression_matrix(expression=((0, 0),), floor=EVEN)


class IsReduced(ExpressionTest):
    def test_all_short_expressions(self):
        for floor in (ONE, EVEN, ODD, ((1, 0), (0, 1)), ((0, 1, 2), (1, 2, 0)), full_floor(3), zero_floor(5)):
            orders = [order for order, _ in told_makers(floor)]
            pairs = pairs_of(floor)
            self.assertIs(is_reduced(floor, ()), True)
            for one in pairs:
                self.assertIs(is_reduced(floor, (one,)), True)
                for two in pairs:
                    self.assertIs(is_reduced(floor, (one, two)), is_told_reduced(orders, (one, two)))
                    for three in pairs:
                        expected = is_told_reduced(orders, (one, two, three))
                        self.assertIs(is_reduced(floor, (one, two, three)), expected)

    def test_makers_of_each_order(self):
        # ONE has the makers R and S of the orders 3 and 2, EVEN has T of the order 0 first.
        for value, expected in [(((0, 1), (0, 1)), False), (((0, 1), (0, -1)), False), (((0, -1), (0, -1)), False),
                                (((1, 1), (1, 1)), False), (((0, 1), (1, 1), (0, 1)), True), (((0, 1), (1, 1), (0, -1)), True)]:
            self.assertIs(is_reduced(ONE, value), expected)
        for value, expected in [(((0, 1), (0, 1)), True), (((0, -1), (0, -1)), True), (((0, 1), (0, -1)), False),
                                (((0, -1), (0, 1)), False), (((1, 1), (1, 1)), False), (((0, 1), (1, 1), (0, -1)), True),
                                (((1, 1), (0, 1), (0, 1), (0, -1)), False)]:
            self.assertIs(is_reduced(EVEN, value), expected)

    def test_two_makers_of_the_same_order(self):
        floor = full_floor(2)
        for one in ((0, 1), (0, -1)):
            for other in ((1, 1), (1, -1)):
                self.assertIs(is_reduced(floor, (one, other, one)), True)

    def test_120_places(self):
        for floor in (SCATTERED[-2], SCATTERED[-1], CHAIN):
            pairs = scattered_expression(floor, 40, 1)
            self.assertIs(is_reduced(floor, pairs), True)
            orders = [order for order, _ in told_makers(floor)]
            twice = [pair for pair in pairs if orders[pair[0]] != 0]
            for pair in twice[:2]:
                self.assertIs(is_reduced(floor, (pair, pair)), False)

    def test_wrong_values_raise_nothing(self):
        for value in NO_TUPLES + [(item,) for item in NO_PAIRS_OF_EVEN] + [((0, 1),) * 2001, (0, 1), ((0, 1), None)]:
            self.assertIs(is_reduced(EVEN, value), False)

    def test_floor_first(self):
        for floor, part in WRONG_FLOORS:
            for value in ((), None, ((0, 0),)):
                with self.assertRaises(BadFloor) as caught:
                    is_reduced(floor, value)
                self.assertEqual(caught.exception.part, part)

    def test_by_name(self):
        self.assertIs(is_reduced(value=((0, 1),), floor=EVEN), True)
        self.assertIs(is_reduced(value=((0, 0),), floor=EVEN), False)


if __name__ == "__main__":
    unittest.main()
