"""Promise [12]: where letters, words and matrices lead the places of a floor, and which matrices are members."""

import unittest

from cuspfloor.errors import BadFloor, BadMatrix, BadPlace, BadWord
from cuspfloor.floors import is_member, lead, lead_by_word
from some_floors import (CHAIN, EVEN, FEW, FLOORS, ODD, ONE, SCATTERED, follow, full_floor, full_key, modular_floor, step_row,
                         zero_floor, zero_key)
from support import (F, HUGE, IDENTITY, NO_MATRICES, OTHER_DETERMINANTS, R, S, STRANGE, T, long_word, multiplied, negative,
                     of_letters, scattered, some_matrices, undone, words_up_to)

LONG = ["SR" * 1000, "rS" * 1000, "SRSr" * 500, "RSrS" * 500] + [long_word(first, 2000, seed)
                                                                   for first in (True, False) for seed in (1, 2)]
NO_WORDS = [(value, None) for value in STRANGE + [0, 7, (), ("S",), ["S"]]] + [
    ("x", 0), ("SS", 1), ("SRR", 2), ("SrR", 2), ("SRSx", 3), (" S", 0), ("SR" * 1000 + "S", None)]
NO_PLACES = STRANGE + [-1, -3, HUGE, -HUGE, "0", "", (), (0,), ((1, 0), (0, 1)), 1.0]


def large_exponents():
    """Numbers of 1 to 390 digits, above and below 0."""
    found = [0, 1, -1, 2, -2, 5, 119, 120, 121, -120, 5040, 10 ** 40 + 3, 10 ** 200 - 7, 7 ** 460, 10 ** 389 + 9]
    for seed in range(3):
        found.append(int("".join(map(str, [1] + scattered(388, 10, seed)))))
    return found + [-k for k in found]


def power_of(letter, exponent):
    return ((1, exponent), (0, 1)) if letter == "T" else ((1, 0), (exponent, 1))


def moved_along(row, place, count):
    """The place after so many steps, by the length of the cycle."""
    length, x = 1, row[place]
    while x != place:
        length, x = length + 1, row[x]
    for _ in range(count % length):
        place = row[place]
    return place


class ByWord(unittest.TestCase):
    def test_letters(self):
        for floor in FLOORS:
            s, r = floor
            for x in range(len(s)):
                self.assertEqual(lead_by_word(floor, x, ""), x)
                self.assertEqual(lead_by_word(floor, x, "S"), s[x])
                self.assertEqual(lead_by_word(floor, x, "R"), r[x])
                self.assertEqual(lead_by_word(floor, r[x], "r"), x)

    def test_short_words(self):
        for floor in FEW:
            for x in range(len(floor[0])):
                for word in words_up_to(8):
                    self.assertEqual(lead_by_word(floor, x, word), follow(floor, x, word))

    def test_order_of_the_letters(self):
        self.assertEqual(lead_by_word(EVEN, 0, "SR"), 0)
        self.assertEqual(lead_by_word(EVEN, 0, "RS"), 1)
        self.assertEqual(lead_by_word(EVEN, 0, "Sr"), 1)
        self.assertEqual(lead_by_word(EVEN, 0, "rS"), 0)

    def test_long_words(self):
        for floor in (ONE, EVEN, ODD, SCATTERED[-1], CHAIN):
            for word in LONG:
                for x in range(0, len(floor[0]), 7):
                    self.assertEqual(lead_by_word(floor, x, word), follow(floor, x, word))

    def test_wrong_words(self):
        for value, index in NO_WORDS:
            with self.assertRaises(BadWord) as caught:
                lead_by_word(EVEN, 2, value)
            self.assertEqual(caught.exception.index, index)


class Lead(unittest.TestCase):
    def test_example(self):
        self.assertEqual(lead(((2, 1, 0), (1, 2, 0)), 0, ((1, 0), (1, 1))), 1)

    def test_words(self):
        for floor in FEW:
            for word in words_up_to(9):
                matrix = of_letters(word)
                for x in range(len(floor[0])):
                    self.assertEqual(lead(floor, x, matrix), follow(floor, x, word), (floor, x, word))

    def test_all_floors(self):
        matrices = [(word, of_letters(word)) for word in words_up_to(4) + LONG]
        for floor in FLOORS:
            for word, matrix in matrices:
                for x in (0, len(floor[0]) // 2, len(floor[0]) - 1):
                    self.assertEqual(lead(floor, x, matrix), follow(floor, x, word))

    def test_the_result_is_an_integer(self):
        for matrix in (IDENTITY, S, R, T, F, ((1, HUGE), (0, 1))):
            self.assertIs(type(lead(EVEN, 0, matrix)), int)

    def test_product_and_inverse(self):
        some = some_matrices()
        some = some[::41] + some[-9:]
        for floor in FEW + SCATTERED[-2:]:
            for one in some:
                for x in (0, len(floor[0]) - 1):
                    reached = lead(floor, x, one)
                    self.assertEqual(lead(floor, reached, undone(one)), x)
                    for other in some[::3] + some[-4:]:
                        if max(abs(k) for matrix in (one, other) for row in matrix for k in row) < 10 ** 199:
                            self.assertEqual(lead(floor, x, multiplied([one, other])), lead(floor, reached, other))

    def test_large_powers(self):
        for floor in FEW + [SCATTERED[-1], CHAIN, full_floor(5)]:
            for letter in "TF":
                row = step_row(floor, letter)
                for exponent in large_exponents():
                    # The normal form of a power of F with a negative exponent has other signs.
                    matrix = multiplied([power_of(letter, exponent)])
                    for x in range(0, len(row), 1 + len(row) // 5):
                        self.assertEqual(lead(floor, x, matrix), moved_along(row, x, exponent), (letter, exponent))

    def test_products_of_large_powers(self):
        exponents = [3 ** 150, -5 ** 90, 7 ** 80, -2 ** 250, 11 ** 60, 10 ** 30 + 1, -1, 2]
        for floor in FEW + [SCATTERED[-1], CHAIN]:
            for first in range(len(exponents)):
                chosen = exponents[first:first + 4]
                for letters in ("TFTF", "FTFT", "TTFF", "FFTT"):
                    matrix = multiplied([power_of(letter, k) for letter, k in zip(letters, chosen)])
                    for x in (0, len(floor[0]) // 2):
                        expected = x
                        for letter, k in zip(letters, chosen):
                            expected = moved_along(step_row(floor, letter), expected, k)
                        self.assertEqual(lead(floor, x, matrix), expected)

    def test_entries_of_400_digits(self):
        for modulus in (2, 5, 11, 37):
            floor, numbers = modular_floor(modulus, zero_key)
            c = 10 ** 399 + 33
            for d in (c + 1, c - 1, c + 2, 10 ** 399 + 1):
                # The other row of a matrix with this row, by division with remainder.
                a, b = row_above(c, d)
                if a * d - b * c == 1:
                    self.assertEqual(lead(floor, 0, ((a, b), (c, d))), numbers[zero_key(((a, b), (c, d)), modulus)])

    def test_classes_of_matrices(self):
        for modulus, key in [(2, zero_key), (6, zero_key), (11, zero_key), (25, zero_key), (3, full_key), (5, full_key)]:
            floor, numbers = modular_floor(modulus, key)
            for matrix in some_matrices():
                self.assertEqual(lead(floor, 0, matrix), numbers[key(matrix, modulus)])

    def test_many_powers(self):
        golden = multiplied([T, F] * 900)
        for floor in (EVEN, ODD, CHAIN, SCATTERED[-1]):
            self.assertEqual(lead(floor, 0, golden), follow(floor, 0, "SRSr" * 900))

    def test_wrong_matrices(self):
        for value in NO_MATRICES + OTHER_DETERMINANTS + [negative(T)]:
            with self.assertRaises(BadMatrix):
                lead(EVEN, 2, value)


def row_above(c, d):
    """Two numbers a and b with a * d - b * c = 1, if c and d have no common divisor."""
    a, b, e, f = 1, 0, 0, 1
    top, low = d, c
    while low:
        k = top // low
        top, low = low, top - k * low
        a, b, e, f = e, f, a - k * e, b - k * f
    return a, -b


class IsMember(unittest.TestCase):
    def test_classes_of_matrices(self):
        for modulus in (2, 3, 4, 6, 11, 13):
            floor = zero_floor(modulus)
            for matrix in some_matrices():
                self.assertIs(is_member(floor, matrix), matrix[1][0] % modulus == 0)
        for modulus in (2, 3, 4, 5, 6):
            floor = full_floor(modulus)
            for matrix in some_matrices():
                self.assertIs(is_member(floor, matrix), full_key(matrix, modulus) == full_key(IDENTITY, modulus))

    def test_words(self):
        for floor in FLOORS:
            for word in words_up_to(5):
                self.assertIs(is_member(floor, of_letters(word)), follow(floor, 0, word) == 0)

    def test_large_entries(self):
        for exponent in large_exponents():
            for floor in (EVEN, zero_floor(11), full_floor(4)):
                for letter in "TF":
                    expected = moved_along(step_row(floor, letter), 0, exponent) == 0
                    self.assertIs(is_member(floor, multiplied([power_of(letter, exponent)])), expected)

    def test_the_floor_of_all_matrices(self):
        for matrix in some_matrices():
            self.assertIs(is_member(ONE, matrix), True)

    def test_errors(self):
        for value in NO_MATRICES + OTHER_DETERMINANTS + [negative(T)]:
            with self.assertRaises(BadMatrix):
                is_member(EVEN, value)
            with self.assertRaises(BadFloor):
                is_member(((0, 1), (0, 1)), value)


class Errors(unittest.TestCase):
    def test_wrong_places(self):
        for function, last in ((lead, T), (lead_by_word, "SR"), (lead, None), (lead_by_word, "SS")):
            for floor in (ONE, EVEN, CHAIN):
                for place in NO_PLACES + [len(floor[0]), len(floor[0]) + 1]:
                    with self.assertRaises(BadPlace) as caught:
                        function(floor, place, last)
                    self.assertIs(caught.exception.value, place)

    def test_wrong_floors(self):
        for floor, part in [(None, "form"), ([(0,), (0,)], "form"), (((1, 1), (0, 1)), "s"), (((0, 1), (1, 0)), "r"),
                            (((0, 1), (0, 1)), "connected")]:
            for function, place, last in ((lead, 0, T), (lead, None, T), (lead, 7, None), (lead_by_word, 0, "S"),
                                          (lead_by_word, None, "SS"), (lead_by_word, True, None)):
                with self.assertRaises(BadFloor) as caught:
                    function(floor, place, last)
                self.assertEqual(caught.exception.part, part)

    def test_by_name(self):
        self.assertEqual(lead(matrix=F, place=0, floor=EVEN), 1)
        self.assertEqual(lead_by_word(word="Sr", place=0, floor=EVEN), 1)
        self.assertIs(is_member(matrix=F, floor=EVEN), False)
        with self.assertRaises(BadPlace):
            lead(matrix=None, place=3, floor=EVEN)
        with self.assertRaises(BadFloor):
            lead_by_word(word="SS", place=3, floor=((0, 1), (0, 1)))


if __name__ == "__main__":
    unittest.main()
