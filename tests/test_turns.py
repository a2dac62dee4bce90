"""Promises [5], [8] and [11] for turns: objects that stand for matrices."""

import unittest
from itertools import product

from cuspfloor import matrices
from cuspfloor.errors import BadFraction, BadMatrix, BadNumber, BadWord
from cuspfloor.turns import Turn
from support import (F, HUGE, IDENTITY, LETTERS, NO_MATRICES, OTHER_DETERMINANTS, R, S, STRANGE, T, long_word, multiplied,
                     of_letters,
                     some_matrices, undone, words_up_to)

SOME = some_matrices()[::23] + some_matrices()[-9:]

NO_INTEGERS = STRANGE + ["1", "", "200", (), (1,), [1], (1, 0)]


def carried(matrix, fraction):
    """The fraction to which a matrix takes a fraction."""
    (a, b), (c, d) = matrix
    p, q = fraction
    top, low = a * p + b * q, c * p + d * q
    return (-top, -low) if (low, top) < (0, 0) else (top, low)


class TurnTest(unittest.TestCase):
    def assert_turn(self, turn, matrix):
        self.assertIs(type(turn), Turn)
        self.assertEqual(turn.rows, matrix)
        self.assertEqual([type(turn.rows), type(turn.rows[0]), type(turn.rows[1])], [tuple] * 3)


class Making(TurnTest):
    def test_example(self):
        s, r = Turn(((0, -1), (1, 0))), Turn.of_word("R")
        self.assertEqual(((s * r).rows, (~r).rows, str(s * r * r), s * s == r.raised(3), bool(s * s), (s * r)((1, 2))),
                         (((1, 1), (0, 1)), ((-1, -1), (1, 0)), "1 0 1 1", True, False, (3, 2)))

    def test_rows(self):
        for matrix in SOME:
            self.assert_turn(Turn(matrix), matrix)
            self.assert_turn(Turn(matrix=matrix), matrix)

    def test_rows_cannot_be_assigned(self):
        turn = Turn(T)
        with self.assertRaises(AttributeError):
            turn.rows = S
        self.assertEqual(turn.rows, T)

    def test_wrong_matrices(self):
        for value in NO_MATRICES + OTHER_DETERMINANTS + [((-1, 0), (0, -1)), ((0, 1), (-1, 0)), Turn(T)]:
            with self.assertRaises(BadMatrix):
                Turn(value)

    def test_most_exponent(self):
        self.assertEqual((Turn.MOST_EXPONENT, Turn(T).MOST_EXPONENT, matrices.MOST_EXPONENT), (200, 200, 200))
        self.assertIs(type(Turn.MOST_EXPONENT), int)


class OfWord(TurnTest):
    def test_words(self):
        for word in words_up_to(6) + [long_word(True, 2000, 5), long_word(False, 1999, 6)]:
            self.assert_turn(Turn.of_word(word), of_letters(word))
        self.assert_turn(Turn.of_word(word="SR"), T)
        self.assert_turn(Turn(T).of_word("rS"), ((1, -1), (0, 1)))

    def test_class_below(self):
        class Further(Turn):
            """A class that a caller writes."""

        self.assertIs(type(Further.of_word("S")), Further)
        self.assertEqual(Further.of_word("S").rows, S)

    def test_wrong_words(self):
        for value, index in [("SS", 1), ("x", 0), ("SRx", 2), ("SRr", 2), ("SR" * 1000 + "S", None), (None, None),
                             (["S"], None), (b"S", None),
                             (T, None), (5, None), ("SR\n", 2)]:
            with self.assertRaises(BadWord) as caught:
                Turn.of_word(value)
            self.assertEqual(caught.exception.index, index)


class Operators(TurnTest):
    def test_product(self):
        for one, other in product(SOME, SOME):
            self.assert_turn(Turn(one) * Turn(other), multiplied([one, other]))

    def test_several_factors(self):
        for word in words_up_to(6):
            turn = Turn(IDENTITY)
            for letter in word:
                turn = turn * Turn(LETTERS[letter])
            self.assert_turn(turn, of_letters(word))

    def test_inverse(self):
        for matrix in SOME:
            self.assert_turn(~Turn(matrix), undone(matrix))
            self.assert_turn(~~Turn(matrix), matrix)
            self.assert_turn(Turn(matrix) * ~Turn(matrix), IDENTITY)
        self.assert_turn(~Turn(S), S)

    def test_operands_keep_their_matrices(self):
        for one, other in product(SOME[::3], SOME[::3]):
            first, second = Turn(one), Turn(other)
            results = [first * second, second * first, ~first, first.raised(3), first == second, bool(first), str(first),
                       first((1, 2))]
            self.assertEqual((first.rows, second.rows), (one, other))
            self.assertEqual(len(results), 8)
            first = first * second
            self.assertEqual(second.rows, other)

    def test_equal(self):
        for one, other in product(SOME, SOME):
            self.assertIs(Turn(one) == Turn(other), one == other)
            self.assertIs(Turn(one) != Turn(other), one != other)
        self.assertIs(Turn(S) * Turn(S) == Turn(IDENTITY), True)

    def test_equal_to_other_values(self):
        for value in NO_MATRICES + [T, S, "1 1 0 1", str(Turn(T)), [T], (Turn(T),)]:
            self.assertIs(Turn(T) == value, False)
            self.assertIs(Turn(T) != value, True)

    def test_bool(self):
        for matrix in SOME + [S, R, T, F]:
            self.assertIs(bool(Turn(matrix)), matrix != IDENTITY)
        self.assertIs(bool(Turn(IDENTITY)), False)
        self.assertIs(bool(Turn(R).raised(3)), False)

    def test_str(self):
        for (a, b), (c, d) in SOME:
            self.assertEqual(str(Turn(((a, b), (c, d)))), " ".join(map(str, (a, b, c, d))))
        self.assertEqual(str(Turn(R)), "0 -1 1 1")
        self.assertEqual(f"{Turn(T)}", "1 1 0 1")


class Raised(TurnTest):
    def test_each_exponent(self):
        for matrix in (S, R, T, F, ((3, 1), (2, 1)), ((1, HUGE), (0, 1))):
            forward = backward = IDENTITY
            for exponent in range(201):
                self.assert_turn(Turn(matrix).raised(exponent), forward)
                self.assert_turn(Turn(matrix).raised(-exponent), backward)
                forward, backward = multiplied([forward, matrix]), multiplied([backward, undone(matrix)])

    def test_by_name(self):
        self.assert_turn(Turn(T).raised(exponent=-200), ((1, -200), (0, 1)))

    def test_wrong_exponents(self):
        for value in NO_INTEGERS + [201, -201, HUGE, -HUGE]:
            with self.assertRaises(BadNumber) as caught:
                Turn(T).raised(value)
            self.assertIs(caught.exception.value, value)


class Calls(TurnTest):
    def test_fractions(self):
        for matrix in SOME:
            for fraction in [(1, 0), (0, 1), (1, 2), (-3, 7), (5, 3), (HUGE, HUGE + 1)]:
                self.assertEqual(Turn(matrix)(fraction), carried(matrix, fraction))
                self.assertEqual(Turn(matrix)(fraction=fraction), carried(matrix, fraction))

    def test_product_takes_as_its_factors(self):
        for one, other in product(SOME[::4], SOME[::4]):
            self.assertEqual((Turn(one) * Turn(other))((2, 5)), Turn(one)(Turn(other)((2, 5))))

    def test_wrong_fractions(self):
        for value in STRANGE + [0, "1/2", (), (1,), (2, 4), (0, 0), (-1, 0), (2, 0), (1, -2), (1, 2, 3), [1, 2], (True, 1),
                                (1, True), T]:
            with self.assertRaises(BadFraction):
                Turn(T)(value)


if __name__ == "__main__":
    unittest.main()
