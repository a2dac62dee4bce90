"""Promise [10]: cyclic words and conjugate matrices."""

import unittest

from cuspfloor.errors import BadMatrix, TooLong
from cuspfloor.words import conjugator, cyclic_word, is_word
from support import (F, HUGE, IDENTITY, NO_MATRICES, OTHER_DETERMINANTS, R, S, T, back, long_word, multiplied, negative,
                     of_letters, undone, words_up_to)

SOME = words_up_to(7)
MOVERS = words_up_to(5)

# Words with 2,000 letters, cyclic ones among them.
LONG = ["SR" * 1000, "rS" * 1000, "SRSr" * 500, "RSrS" * 500] + [long_word(first, 2000, seed)
                                                                   for first in (True, False) for seed in (1, 2)]


def is_cyclic(word):
    return len(word) <= 1 or (word[0] == "S" and word[-1] != "S")


def turned(word):
    """The words that result by moving an even number of first letters to the end."""
    return [word[at:] + word[:at] for at in range(0, len(word) + 1, 2)] if len(word) > 1 else [word]


def moved(mover, matrix):
    return multiplied([mover, matrix, undone(mover)])


class CyclicWord(unittest.TestCase):
    def test_example(self):
        self.assertEqual(cyclic_word(((3, 1), (2, 1))), "SRSrSr")

    def test_values(self):
        for matrix, word in [(IDENTITY, ""), (S, "S"), (R, "R"), (undone(R), "r"), (T, "SR"), (undone(T), "Sr"), (F, "Sr"),
                             (undone(F), "SR"), (of_letters("SrSR"), "SRSr"), (of_letters("RSr"), "S"),
                             (of_letters("SRS"), "R"), (of_letters("RSR"), "Sr"), (of_letters("rSr"), "SR"),
                             (of_letters("RSRSr"), "R"), (of_letters("SrSrSRSR"), "SRSRSrSr")]:
            self.assertEqual(cyclic_word(matrix), word, word)

    def test_smallest_of_the_turned_words(self):
        for word in words_up_to(12):
            if is_cyclic(word):
                self.assertEqual(cyclic_word(of_letters(word)), min(turned(word)))

    def test_same_for_conjugates(self):
        for word in SOME:
            matrix = of_letters(word)
            found = cyclic_word(matrix)
            self.assertTrue(is_word(found) and is_cyclic(found))
            self.assertEqual(found, min(turned(found)))
            for mover in MOVERS:
                self.assertEqual(cyclic_word(moved(of_letters(mover), matrix)), found, (word, mover))

    def test_conjugate_to_the_matrix(self):
        # A word is taken to its cyclic word by one with no more letters.
        for word in words_up_to(6):
            goal = of_letters(cyclic_word(of_letters(word)))
            self.assertIn(goal, [moved(of_letters(mover), of_letters(word)) for mover in SOME], word)

    def test_different_for_others(self):
        # Matrices of cyclic words that are not turned words of each other are not taken to each other.
        for word in [word for word in words_up_to(6) if is_cyclic(word)]:
            reached = {moved(of_letters(mover), of_letters(word)) for mover in SOME}
            for other in [other for other in words_up_to(6) if is_cyclic(other)]:
                same = cyclic_word(of_letters(other)) == cyclic_word(of_letters(word))
                self.assertEqual(of_letters(other) in reached, same, (word, other))

    def test_long_words(self):
        for word in LONG:
            found = cyclic_word(of_letters(word))
            self.assertTrue(is_word(found) and is_cyclic(found))
            cyclic = word if word[0] == "S" else word[1:] + word[0]
            self.assertEqual(found, min(turned(cyclic)))

    def test_long_conjugates_of_short_words(self):
        way = long_word(True, 999, 3)
        for word in ("S", "Sr", "SRSRSr"):
            whole = [of_letters(way), of_letters(word), of_letters(back(way))]
            self.assertEqual(cyclic_word(multiplied(whole)), word)

    def test_too_long(self):
        for matrix in [((1, 1001), (0, 1)), ((1, 0), (HUGE, 1)), of_letters("SR" * 1000 + "S")]:
            with self.assertRaises(TooLong) as caught:
                cyclic_word(matrix)
            self.assertEqual(caught.exception.limit, 2000)

    def test_wrong_values(self):
        for value in NO_MATRICES + OTHER_DETERMINANTS + [negative(T)]:
            with self.assertRaises(BadMatrix):
                cyclic_word(value)

    def test_by_name(self):
        self.assertEqual(cyclic_word(matrix=F), "Sr")


class Conjugator(unittest.TestCase):
    def assert_takes(self, one, other):
        found = conjugator(one, other)
        self.assertIsNotNone(found)
        (a, b), (c, d) = found
        self.assertEqual(a * d - b * c, 1)
        self.assertTrue(c > 0 or (c == 0 and a == 1))
        self.assertEqual(moved(found, one), other)

    def test_example(self):
        self.assertIsNone(conjugator(((1, 1), (0, 1)), ((1, 0), (1, 1))))

    def test_conjugates(self):
        for word in SOME:
            matrix = of_letters(word)
            for mover in MOVERS:
                other = moved(of_letters(mover), matrix)
                self.assert_takes(matrix, other)
                self.assert_takes(other, matrix)

    def test_itself(self):
        for word in words_up_to(8):
            self.assert_takes(of_letters(word), of_letters(word))

    def test_none_exactly_if_not_conjugate(self):
        matrices = [of_letters(word) for word in words_up_to(6)]
        for one in matrices:
            reached = {moved(of_letters(mover), one) for mover in SOME}
            for other in matrices:
                if other in reached:
                    self.assert_takes(one, other)
                else:
                    self.assertIsNone(conjugator(one, other), (one, other))

    def test_special_matrices(self):
        back_t = ((1, -1), (0, 1))
        for one, other in [(S, R), (R, undone(R)), (undone(R), R), (IDENTITY, S), (IDENTITY, T), (S, IDENTITY), (T, back_t),
                           (back_t, T), (T, ((1, 2), (0, 1))), (T, R), (T, F)]:
            self.assertIsNone(conjugator(one, other))
        for one, other in [(IDENTITY, IDENTITY), (S, S), (R, R), (T, T), (back_t, F), (F, back_t), (T, undone(F)),
                           (S, ((-2, -5), (1, 2))), (R, ((-1, -3), (1, 2))), (undone(R), ((1, -3), (1, -2)))]:
            self.assert_takes(one, other)

    def test_long_words(self):
        way = long_word(False, 700, 5)
        for word in ["S", "R", "r", "SR", "SRSr" * 20, "SRSRSr" * 50]:
            other = multiplied([of_letters(way), of_letters(word), of_letters(back(way))])
            self.assert_takes(of_letters(word), other)
            self.assert_takes(other, of_letters(word))
        for word in LONG:
            cyclic = word if word[0] == "S" else word[1:] + word[0]
            for at in (2, 1000, 1998):
                self.assert_takes(of_letters(word), of_letters(cyclic[at:] + cyclic[:at]))

    def test_too_long(self):
        longs = [((1, 1001), (0, 1)), ((1, 0), (HUGE, 1)), of_letters("SR" * 1000 + "S")]
        for one, other in [(longs[0], T), (T, longs[0]), (longs[1], longs[1]), (longs[2], S), (S, longs[2])]:
            with self.assertRaises(TooLong) as caught:
                conjugator(one, other)
            self.assertEqual(caught.exception.limit, 2000)

    def test_bad_matrix_ahead_of_too_long(self):
        for one, other in [(((1, HUGE), (0, 1)), None), (None, ((1, HUGE), (0, 1))), (((1, 1001), (0, 1)), negative(T))]:
            with self.assertRaises(BadMatrix):
                conjugator(one, other)

    def test_wrong_values(self):
        for value in NO_MATRICES + OTHER_DETERMINANTS + [negative(T)]:
            for one, other in [(value, T), (T, value), (value, value)]:
                with self.assertRaises(BadMatrix):
                    conjugator(one, other)

    def test_by_name(self):
        found = conjugator(other=F, one=((1, -1), (0, 1)))
        self.assertEqual(moved(found, ((1, -1), (0, 1))), F)

    def test_equal_calls_have_equal_results(self):
        for one, other in [(T, T), (((1, -1), (0, 1)), F), (S, ((-2, -5), (1, 2)))]:
            self.assertEqual(conjugator(one, other), conjugator(one, other))


if __name__ == "__main__":
    unittest.main()
