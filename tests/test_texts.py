"""Promise [30], with [15]: texts of matrices and floors, their parsers, and tables."""

import unittest

from cuspfloor.errors import BadFloor, BadMatrix, BadText
from cuspfloor.makers import roads
from cuspfloor.texts import floor_table, floor_text, matrix_text, parse_floor, parse_matrix
from some_floors import CHAIN, EVEN, FLOORS, ODD, ONE, WRONG_FLOORS, all_small_floors, renamed, shuffled
from support import HUGE, IDENTITY, NO_MATRICES, OTHER_DETERMINANTS, STRANGE, T, of_letters, some_matrices, words_up_to

NO_STRINGS = STRANGE + [0, 1, HUGE, (), ("1 0 0 1",), ["1", "0", "0", "1"], b"1 0 0 1", b"0 / 0", IDENTITY, EVEN, {"1": 0}]

# Parts that are no text of an integer, wherever they stand.
NO_NUMBERS = ["", "00", "01", "-01", "+1", "-0", "+0", "--1", "-", "+", "1_0", "0x1", "0b1", "1e0", "1.0", "1.", "1,", "a",
              "1a", "a1", "S", "/1",
              "1/", "\n", "1\n", "\n1", "1\n0", "-\n1", "- ", "1-", "~", "'1'", "(1", "True", "None", "007", "-007", "one"]


class TextTest(unittest.TestCase):
    def assert_wrong(self, parser, text, part):
        with self.assertRaises(BadText) as caught:
            parser(text)
        self.assertEqual(caught.exception.part, part, text)
        self.assertIs(type(caught.exception.part), int)


class MatrixText(TextTest):
    def test_example(self):
        self.assertEqual((matrix_text(((0, -1), (1, 1))), floor_text(((2, 1, 0), (1, 2, 0))), parse_matrix("1 -3 0 1")),
                         ("0 -1 1 1", "2 1 0 / 1 2 0", ((1, -3), (0, 1))))

    def test_texts(self):
        for (a, b), (c, d) in some_matrices():
            text = matrix_text(((a, b), (c, d)))
            self.assertEqual(text, " ".join([str(a), str(b), str(c), str(d)]))
            self.assertIs(type(text), str)
        self.assertEqual(matrix_text(matrix=T), "1 1 0 1")

    def test_wrong_matrices(self):
        for value in NO_MATRICES + OTHER_DETERMINANTS + [((-1, 0), (0, -1)), ((0, 1), (-1, 0))]:
            with self.assertRaises(BadMatrix):
                matrix_text(value)


class ParseMatrix(TextTest):
    def assert_matrix_text_wrong(self, text, part):
        self.assert_wrong(parse_matrix, text, part)

    def test_read_back(self):
        for matrix in some_matrices() + [of_letters(word) for word in words_up_to(7)]:
            found = parse_matrix(matrix_text(matrix))
            self.assertEqual(found, matrix)
            self.assertEqual([type(found), type(found[0]), type(found[1])] + [type(x) for row in found for x in row],
                             [tuple] * 3 + [int] * 4)
        self.assertEqual(parse_matrix(text="1 0 0 1"), IDENTITY)

    def test_400_digits(self):
        for number in (10 ** 400 - 1, 10 ** 399):
            self.assertEqual(len(str(number)), 400)
            for rows in [((1, number), (0, 1)), ((1, -number), (0, 1)), ((1, 0), (number, 1)), ((0, -1), (1, number)),
                         ((number, -1), (1, 0)),
                         ((-number, -1), (1, 0)), ((0, -1), (1, -number))]:
                self.assertEqual(parse_matrix(matrix_text(rows)), rows)

    def test_401_digits(self):
        long = "1" + "0" * 400
        for number in (long, "-" + long, "9" * 401, "-" + "9" * 401, "1" * 4000, "1" * 4301, "-" + "1" * 9000):
            for at in range(4):
                parts = "1 0 0 1".split()
                parts[at] = number
                self.assert_matrix_text_wrong(" ".join(parts), at + 1)
        self.assert_matrix_text_wrong("1 " + long + " 0 1", 2)
        self.assert_matrix_text_wrong("1 0" + "0" * 400 + " 0 1", 2)

    def test_values_that_are_no_strings(self):
        for value in NO_STRINGS:
            self.assert_matrix_text_wrong(value, 0)

    def test_wrong_part_at_each_place(self):
        for wrong in NO_NUMBERS:
            if " " in wrong:
                continue
            for at in range(4):
                parts = "3 1 2 1".split()
                parts[at] = wrong
                self.assert_matrix_text_wrong(" ".join(parts), at + 1)
                parts[at + 1:] = []
                self.assert_matrix_text_wrong(" ".join(parts), at + 1)
                self.assert_matrix_text_wrong(" ".join(parts + ["x"] * 6), at + 1)

    def test_spaces(self):
        for text, part in [("", 1), (" ", 1), ("     ", 1), (" 1 0 0 1", 1), ("1 0 0 1 ", 5), ("1  0 0 1", 2),
                           ("1 0  0 1", 3), ("1 0 0  1", 4),
                           ("1 0 0 ", 4), ("1 0 ", 3), ("1 ", 2), ("1 0 0 1  ", 5)]:
            self.assert_matrix_text_wrong(text, part)

    def test_newlines_separate_nothing(self):
        for text, part in [("1\n0\n0\n1", 1), ("1\n0 0 1", 1), ("1 0 0\n1", 3), ("1 0 0 1\n", 4), ("\n1 0 0 1", 1),
                           ("1 0 0 1 \n", 5),
                           ("1 \n0 0 1", 2), ("1 0\n 0 1", 2)]:
            self.assert_matrix_text_wrong(text, part)

    def test_missing_parts(self):
        for text, part in [("1", 2), ("1 0", 3), ("1 0 0", 4), ("5 5", 3), ("-7", 2), ("0 0 0", 4)]:
            self.assert_matrix_text_wrong(text, part)

    def test_fifth_part(self):
        for text in ["1 0 0 1 1", "1 0 0 1 x", "0 0 0 0 0", "1 0 0 1 0 0", "1 0 0 1 /", "2 0 0 2 x y", "-1 0 0 -1 0"]:
            self.assert_matrix_text_wrong(text, 5)

    def test_integers_that_are_no_matrix(self):
        for text in ["0 0 0 0", "1 2 3 4", "2 0 0 1", "0 1 1 0", "-1 0 0 -1", "0 1 -1 0", "-1 1 0 -1", "-1 -1 -2 -3",
                     "1 0 0 -1",
                     " ".join(["9" * 400] * 4)]:
            self.assert_matrix_text_wrong(text, 4)
        for rows in OTHER_DETERMINANTS:
            self.assert_matrix_text_wrong(" ".join(str(x) for row in rows for x in row), 4)

    def test_first_of_several_wrong_parts(self):
        for text, part in [("x y z", 1), ("1 y z", 2), ("1 0 z 1 5", 3), ("1 0 0 z 5", 4), ("01 02", 1), ("1 02", 2),
                           ("2 2 2 02", 4)]:
            self.assert_matrix_text_wrong(text, part)


class FloorText(TextTest):
    def test_texts(self):
        for floor in FLOORS:
            s, r = floor
            self.assertEqual(floor_text(floor), " ".join(map(str, s)) + " / " + " ".join(map(str, r)))
        self.assertEqual(floor_text(floor=ONE), "0 / 0")
        self.assertEqual(floor_text(ODD), "2 3 0 1 6 5 4 / 1 2 0 4 5 3 6")

    def test_wrong_floors(self):
        for value, part in WRONG_FLOORS + [(value, "form") for value in STRANGE]:
            for function in (floor_text, floor_table):
                with self.assertRaises(BadFloor) as caught:
                    function(value)
                self.assertEqual(caught.exception.part, part)


class ParseFloor(TextTest):
    def assert_floor_text_wrong(self, text, part):
        self.assert_wrong(parse_floor, text, part)

    def test_example(self):
        self.assert_floor_text_wrong("2 1 0 / 1 2", 7)

    def test_read_back(self):
        for floor in FLOORS + [renamed(floor, shuffled(len(floor[0]), 6)) for floor in FLOORS] + all_small_floors(3):
            found = parse_floor(floor_text(floor))
            self.assertEqual(found, floor)
            self.assertEqual([type(found), type(found[0]), type(found[1]), type(found[0][0]), type(found[1][0])],
                             [tuple] * 3 + [int] * 2)
        self.assertEqual(len(parse_floor(floor_text(CHAIN))[0]), 120)
        self.assertEqual(parse_floor(text="0 / 0"), ONE)

    def test_values_that_are_no_strings(self):
        for value in NO_STRINGS:
            self.assert_floor_text_wrong(value, 0)

    def test_wrong_part_at_each_place(self):
        for wrong in NO_NUMBERS + ["120", "-1", "121", "1000", "3" * 500, "0" * 9]:
            if " " in wrong:
                continue
            for at in range(7):
                parts = "2 1 0 / 1 2 0".split()
                parts[at] = wrong
                self.assert_floor_text_wrong(" ".join(parts), at + 1)
                self.assert_floor_text_wrong(" ".join(parts[:at + 1]), at + 1)
                self.assert_floor_text_wrong(" ".join(parts + ["x", "/"]), at + 1)

    def test_119_and_120(self):
        # 119 can stand in a text, but three numbers with 119 are not a floor.
        self.assert_floor_text_wrong("119 1 0 / 1 119 0", 7)
        self.assert_floor_text_wrong("120 1 0 / 1 120 0", 1)
        self.assert_floor_text_wrong("2 1 0 / 1 120 0", 6)
        self.assert_floor_text_wrong("2 1 0 / 1 119 0", 6)
        self.assert_floor_text_wrong("119 / 119", 3)
        self.assert_floor_text_wrong(" ".join(map(str, range(121))) + " / " + " ".join(map(str, range(121))), 121)
        self.assert_floor_text_wrong(" ".join(map(str, range(120))) + " / " + " ".join(map(str, range(120))), 241)
        self.assert_floor_text_wrong(" ".join(map(str, range(120))), 121)

    def test_a_number_twice(self):
        for text, part in [("2 2 0 / 1 2 0", 2), ("2 1 2 / 1 2 0", 3), ("2 1 0 / 1 1 0", 6), ("2 1 0 / 1 2 1", 7),
                           ("0 / 0 0", 4), ("0 0 / 0", 2),
                           ("0 / 0 / 0", 4), ("2 1 0 2 / 1 2 0", 4)]:
            self.assert_floor_text_wrong(text, part)

    def test_a_number_in_r_that_is_not_in_s(self):
        for text, part in [("2 1 0 / 3 2 0", 5), ("2 1 0 / 1 3 0", 6), ("2 1 0 / 1 2 3", 7), ("0 / 1", 3), ("1 / 0", 3),
                           ("0 2 / 1", 4)]:
            self.assert_floor_text_wrong(text, part)

    def test_slash(self):
        for text, part in [("2 1 0", 4), ("2 1 0 1 2 0", 4), ("/ 2 1 0", 1), ("/", 1), ("/ /", 1), ("2 1 0 / / 1 2 0", 5),
                           ("2 / 1 0 / 1 2 0", 3),
                           ("2 1 0 / 1 / 2 0", 6), ("2 1 0 / 1 2 0 /", 8), ("2 1 0 // 1 2 0", 4), ("2 1 0/1 2 0", 3),
                           ("0/0", 1), ("0 /0", 2),
                           ("0 | 0", 2), ("0 \\ 0", 2), ("0 /", 3), ("2 1 0 /", 5)]:
            self.assert_floor_text_wrong(text, part)

    def test_r_too_short_or_too_long(self):
        for text, part in [("2 1 0 / 1 2", 7), ("2 1 0 / 1", 6), ("2 1 0 / 1 2 0 0", 8), ("2 1 0 / 1 2 0 3", 8),
                           ("2 1 0 / 1 2 0 x y", 8), ("0 / 0 1", 4)]:
            self.assert_floor_text_wrong(text, part)
        parts = floor_text(CHAIN).split(" ")
        for many in range(1, 241):
            self.assert_floor_text_wrong(" ".join(parts[:many]), many + 1)
        self.assert_floor_text_wrong(floor_text(CHAIN) + " 0", 242)

    def test_all_parts_right_and_no_floor(self):
        for text, part in [("1 2 0 / 1 2 0", 7), ("2 1 0 / 1 0 2", 7), ("0 1 / 0 1", 5), ("1 0 / 1 0", 5), ("1 / 1", 3),
                           ("5 7 / 7 5", 5), ("1 2 / 2 1", 5),
                           ("0 1 2 / 0 2 1", 7), ("1 0 3 2 / 0 1 2 3", 9), ("1 0 5 / 0 1 5", 7)]:
            self.assert_floor_text_wrong(text, part)

    def test_spaces_and_newlines(self):
        for text, part in [("", 1), (" ", 1), (" 0 / 0", 1), ("0 / 0 ", 4), ("0  / 0", 2), ("0 /  0", 3), ("0 / ", 3),
                           ("0 ", 2), ("2 1  0 / 1 2 0", 3),
                           ("0\n/\n0", 1), ("0 /\n0", 2), ("0 / 0\n", 3), ("\n0 / 0", 1), ("0 \n/ 0", 2),
                           ("2\n1 0 / 1 2 0", 1), ("0 / 0 \n", 4)]:
            self.assert_floor_text_wrong(text, part)

    def test_texts_of_matrices(self):
        self.assert_floor_text_wrong("1 0 0 1", 3)
        self.assert_floor_text_wrong("1 -1 0 1", 2)
        self.assert_wrong(parse_matrix, "1 0 / 0 1", 3)


class FloorTable(TextTest):
    def test_example(self):
        self.assertEqual(floor_table(((2, 1, 0), (1, 2, 0))), "   0   2   1  -\n   1   1   2  R\n   2   0   0  r")

    def test_values(self):
        self.assertEqual(floor_table(ONE), "   0   0   0  -")
        self.assertEqual(floor_table(floor=((1, 0), (0, 1))), "   0   1   0  -\n   1   0   1  S")
        self.assertEqual(floor_table(ODD), "\n".join([
            "   0   2   1  -", "   1   3   2  R", "   2   0   0  r", "   3   1   4  RS", "   4   6   5  RSR",
            "   5   5   3  RSr", "   6   4   6  RSRS"]))

    def test_lines(self):
        for floor in FLOORS + [renamed(floor, [0] + [x + 1 for x in shuffled(len(floor[0]) - 1, 8)]) for floor in FLOORS]:
            lines = floor_table(floor).split("\n")
            self.assertEqual(len(lines), len(floor[0]))
            for x, line in enumerate(lines):
                road = roads(floor)[x]
                self.assertEqual(line, "".join(str(number).rjust(4) for number in (x, floor[0][x],
                                                                                   floor[1][x])) + "  " + (road if road else "-"))

    def test_120_places(self):
        lines = floor_table(CHAIN).split("\n")
        self.assertEqual(len(lines), 120)
        self.assertEqual(lines[0], "   0   0   1  -")
        self.assertEqual(lines[119][:14], " 119 119 117  ")
        self.assertEqual(len(lines[119]), 14 + len(roads(CHAIN)[119]))
        self.assertGreater(len(lines[119]), 80)


if __name__ == "__main__":
    unittest.main()
