"""Promises [8], [4] and [31] for words: words, their matrices, joined words and their errors."""

import re
import unittest

from cuspfloor import words
from cuspfloor.errors import BadMatrix, BadWord, TooLong
from cuspfloor.words import MAX_WORD, is_word, joined, matrix_of_word, word_of
from support import (F, HUGE, IDENTITY, NO_MATRICES, OTHER_DETERMINANTS, STRANGE, T, back, long_word, multiplied, negative,
                     of_letters, some_matrices, undone, words_up_to)

SHORT = words_up_to(10)
NO_STRINGS = STRANGE + [0, 5, HUGE, (), ("S", "R"), ["S"], (("S", 1),), T]

# Words with exactly 2,000 letters that begin and end in each of the possible ways.
FULL = (["SR" * 1000, "rS" * 1000, "Sr" * 1000, "RS" * 1000, "SRSr" * 500, "RSrS" * 500]
        + [long_word(first, 2000, seed) for first in (True, False) for seed in range(8)])


def index_of_fault(text):
    """The index that [31] asks for, by the shortest beginning that is not a word."""
    return min(at for at in range(len(text)) if not re.fullmatch("S?([Rr]S)*[Rr]?", text[:at + 1]))


class WordTest(unittest.TestCase):
    def assert_bad_word(self, index, function, *given, **named):
        with self.assertRaises(BadWord) as caught:
            function(*given, **named)
        self.assertEqual(caught.exception.index, index)

    def assert_too_long(self, function, *given, **named):
        with self.assertRaises(TooLong) as caught:
            function(*given, **named)
        self.assertEqual(caught.exception.limit, 2000)


class Checks(WordTest):
    def test_limit(self):
        self.assertEqual((words.MAX_WORD, MAX_WORD), (2000, 2000))

    def test_words(self):
        for word in SHORT + FULL:
            self.assertIs(is_word(word), True)

    def test_values_that_are_no_strings(self):
        for value in NO_STRINGS:
            self.assertIs(is_word(value), False)
            self.assert_bad_word(None, matrix_of_word, value)
            self.assert_bad_word(None, joined, value)

    def test_wrong_at_each_place(self):
        for word in words_up_to(5):
            for at in range(len(word) + 1):
                for wrong in ["s", "T", "F", " ", "\n", "~", "0", "-", "S", "R", "r", "SS", "rR", "Sr"]:
                    text = word[:at] + wrong + word[at:]
                    if re.fullmatch("S?([Rr]S)*[Rr]?", text):
                        self.assertIs(is_word(text), True)
                        continue
                    self.assertIs(is_word(text), False, text)
                    self.assert_bad_word(index_of_fault(text), matrix_of_word, text)
                    self.assert_bad_word(index_of_fault(text), joined, text)

    def test_index(self):
        for text, index in [("x", 0), (" SR", 0), ("s", 0), ("SRx", 2), ("SxR", 1), ("SS", 1), ("RR", 1), ("Rr", 1), ("rR", 1),
                            ("rr", 1), ("SRSS", 3), ("SRRS", 2), ("SRSrR", 4), ("SSx", 1), ("xSS", 0), ("SR\n", 2),
                            ("S R", 1), ("SR ", 2), ("SRSRSRx", 6), ("SRT", 2)]:
            self.assert_bad_word(index, matrix_of_word, text)
            self.assertIs(is_word(text), False, text)

    def test_index_in_long_texts(self):
        for at, text in [(1999, "SR" * 999 + "SS"), (1999, "SR" * 999 + "Sx"), (1000, "SR" * 500 + "r" + "SR" * 499),
                         (0, "~" + "SR" * 999)]:
            self.assert_bad_word(at, matrix_of_word, text)

    def test_length(self):
        for text in ["SR" * 1000 + "S", "SR" * 1001, "rS" * 1000 + "r", "x" * 2001, "S" * 10000]:
            self.assertIs(is_word(text), False)
            self.assert_bad_word(None, matrix_of_word, text)
            self.assert_bad_word(None, joined, text)


class MatrixOfWord(WordTest):
    def test_short_words(self):
        for word in SHORT:
            self.assertEqual(matrix_of_word(word), of_letters(word))

    def test_values(self):
        self.assertEqual([matrix_of_word(word) for word in ("", "S", "R", "r", "SR", "Sr")],
                         [IDENTITY, ((0, -1), (1, 0)), ((0, -1), (1, 1)), ((-1, -1), (1, 0)), T, F])
        self.assertEqual(matrix_of_word("SR" * 1000), ((1, 1000), (0, 1)))
        self.assertEqual(matrix_of_word("rS" * 1000), ((1, -1000), (0, 1)))

    def test_long_words(self):
        for word in FULL:
            self.assertEqual(matrix_of_word(word), of_letters(word))

    def test_different_words_have_different_matrices(self):
        self.assertEqual(len({matrix_of_word(word) for word in SHORT}), len(SHORT))

    def test_product_and_inverse(self):
        for word in words_up_to(5):
            self.assertEqual(matrix_of_word(back(word)), undone(matrix_of_word(word)))

    def test_by_name(self):
        self.assertEqual(matrix_of_word(word="SRS"), ((1, -1), (1, 0)))
        self.assert_bad_word(1, matrix_of_word, word="SS")
        self.assertIs(is_word(value="SR"), True)
        self.assertIs(is_word(value="SS"), False)


class WordOf(WordTest):
    def test_example(self):
        self.assertEqual(word_of(((3, 1), (2, 1))), "SRSrSr")

    def test_short_words(self):
        for word in SHORT:
            self.assertEqual(word_of(of_letters(word)), word)

    def test_word_of_the_inverse(self):
        for word in SHORT:
            self.assertEqual(word_of(undone(of_letters(word))), back(word))

    def test_small_matrices(self):
        for matrix in some_matrices():
            if max(abs(x) for row in matrix for x in row) < 100:
                word = word_of(matrix)
                self.assertIs(is_word(word), True)
                self.assertEqual(of_letters(word), matrix)

    def test_exactly_2000_letters(self):
        for word in FULL:
            self.assertEqual(word_of(of_letters(word)), word)

    def test_from_1992_to_2009_letters(self):
        # The beginnings and ends are all those at which letters of the expansion cancel, or don't.
        powers = {"SR": lambda k: ((1, k), (0, 1)), "Sr": lambda k: ((1, 0), (k, 1)),
                  "rS": lambda k: ((1, -k), (0, 1)), "RS": lambda k: ((-1, 0), (k, -1))}
        for part, power in powers.items():
            heads = [word for word in words_up_to(4) if word == "" or (word[-1] == "S") != (part[0] == "S")]
            tails = [word for word in words_up_to(4) if word == "" or (word[0] == "S") != (part[-1] == "S")]
            for head, tail in [(head, tail) for head in heads for tail in tails]:
                for k in range((1992 - len(head + tail)) // 2, (2010 - len(head + tail)) // 2):
                    word = head + part * k + tail
                    matrix = multiplied([of_letters(head), power(k), of_letters(tail)])
                    if len(word) <= 2000:
                        self.assertEqual(word_of(matrix), word)
                    else:
                        self.assert_too_long(word_of, matrix)

    def test_powers_of_t_and_f_at_the_limit(self):
        self.assertEqual(word_of(((1, 1000), (0, 1))), "SR" * 1000)
        self.assertEqual(word_of(((1, -1000), (0, 1))), "rS" * 1000)
        self.assertEqual(word_of(((1, 0), (1000, 1))), "Sr" * 1000)
        self.assertEqual(word_of(((-1, 0), (1000, -1))), "RS" * 1000)
        for matrix in [((1, 1001), (0, 1)), ((1, -1001), (0, 1)), ((1, 0), (1001, 1)), ((-1, 0), (1001, -1))]:
            self.assert_too_long(word_of, matrix)

    def test_exactly_2001_letters(self):
        for word in FULL:
            longer = word + ("S" if word[-1] != "S" else "R")
            self.assert_too_long(word_of, of_letters(longer))
            longer = ("S" if word[0] != "S" else "r") + word
            self.assert_too_long(word_of, of_letters(longer))

    def test_hundreds_of_digits(self):
        for matrix in [((1, HUGE), (0, 1)), ((1, -HUGE), (0, 1)), ((1, 0), (HUGE, 1)), ((-1, 0), (HUGE, -1)),
                       ((HUGE, -1), (1, 0)), ((0, -1), (1, -HUGE)), multiplied([T, F] * 900)]:
            self.assert_too_long(word_of, matrix)
        golden = "SRSr" * 500
        self.assertGreater(len(str(of_letters(golden)[0][0])), 200)
        self.assertEqual(word_of(of_letters(golden)), golden)

    def test_wrong_values(self):
        for value in NO_MATRICES + OTHER_DETERMINANTS + [negative(T)]:
            with self.assertRaises(BadMatrix):
                word_of(value)

    def test_by_name(self):
        self.assertEqual(word_of(matrix=T), "SR")


class Joined(WordTest):
    def test_example_and_edges(self):
        self.assertEqual(joined("SR", "RS"), "SrS")
        self.assertEqual(joined(), "")
        self.assertEqual(joined(""), "")
        self.assertEqual(joined("", "", ""), "")
        for word in SHORT + FULL:
            self.assertEqual(joined(word), word)
            self.assertEqual(joined("", word, ""), word)

    def test_pairs_of_letters(self):
        self.assertEqual([joined(*pair) for pair in ("SS", "RR", "Rr", "rR", "rr", "SR", "rS")],
                         ["", "r", "", "", "R", "SR", "rS"])

    def test_product_of_two(self):
        some = words_up_to(6)
        table = {of_letters(word): word for word in words_up_to(12)}
        for one in some:
            for other in some:
                expected = table[multiplied([of_letters(one), of_letters(other)])]
                self.assertEqual(joined(one, other), expected, (one, other))

    def test_wholly_cancelled(self):
        for word in SHORT + FULL:
            self.assertEqual(joined(word, back(word)), "")
            self.assertEqual(joined(back(word), word), "")

    def test_partly_cancelled(self):
        self.assertEqual(joined("SRSR", "rSrS", "R"), "R")
        self.assertEqual(joined("SRSR", "RSR"), "SRSrSR")
        self.assertEqual(joined("SRSR", "rSR"), "Sr")
        self.assertEqual(joined("S", "R", "S", "r", "R", "S"), "SR")

    def test_associative(self):
        some = words_up_to(4)
        for one in some:
            for two in some:
                for three in some:
                    whole = joined(one, two, three)
                    self.assertEqual(joined(joined(one, two), three), whole)
                    self.assertEqual(joined(one, joined(two, three)), whole)

    def test_bad_word_at_each_place(self):
        for wrong, index in [(None, None), ("SS", 1), ("x", 0), ("SR" * 1000 + "S", None), ("SRSr ", 4), (b"S", None), (["S"], None)]:
            for at in range(3):
                given = ["SR", "Sr", "r"]
                given[at] = wrong
                self.assert_bad_word(index, joined, *given)

    def test_first_of_two_bad_words(self):
        self.assert_bad_word(2, joined, "SR", "SRx", "SS", None)
        self.assert_bad_word(None, joined, "SR", 1, "SS")

    def test_bad_word_ahead_of_too_long(self):
        self.assert_bad_word(1, joined, "SR" * 1000, "SR" * 1000, "SS")
        self.assert_bad_word(None, joined, "SR" * 1000, "SR" * 1000, None)

    def test_limit(self):
        self.assertEqual(joined("SR" * 500, "SR" * 500), "SR" * 1000)
        self.assertEqual(joined("SR" * 999, "S", "r"), "SR" * 999 + "Sr")
        self.assertEqual(joined("rS" * 1000, "S"), "rS" * 999 + "r")
        self.assertEqual(joined("SR" * 1000, "R"), "SR" * 999 + "Sr")
        self.assert_too_long(joined, "SR" * 1000, "S")
        self.assert_too_long(joined, "SR" * 500, "SR" * 500, "S")
        self.assert_too_long(joined, "SR" * 1000, "SR" * 1000)
        self.assert_too_long(joined, "r", "SR" * 1000)

    def test_longer_on_the_way(self):
        self.assertEqual(joined("SR" * 1000, "SR" * 1000, "rS" * 1000), "SR" * 1000)
        self.assertEqual(joined("SR" * 1000, "S", "S", "rS" * 1000, "r"), "r")


if __name__ == "__main__":
    unittest.main()
