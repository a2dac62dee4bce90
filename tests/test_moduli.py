"""Promises [25] and [26]: matrices that are alike, levels, and floors that depend on a modulus."""

import unittest
from itertools import product
from math import lcm

from cuspfloor import moduli
from cuspfloor.errors import BadFloor, BadMatrix, BadNumber, TooMany
from cuspfloor.floors import is_member
from cuspfloor.moduli import MAX_MODULUS, are_alike, dependence, is_dependence, level, outsider
from cuspfloor.several import all_floors
from some_floors import (CHAIN, EVEN, FLOORS, ODD, ONE, SCATTERED, WRONG_FLOORS, as_numbered, full_floor, full_key, renamed,
                         scattered_floor, shuffled, step_row, zero_floor)
from support import (F, HUGE, IDENTITY, NO_MATRICES, OTHER_DETERMINANTS, R, S, STRANGE, T, multiplied, of_letters,
                     some_matrices,
                     undone, words_up_to)

NO_INTEGERS = STRANGE + ["1", "", "16", (), (1,), [1], (1, 0), {1: 1}]

SMALL = [floor for places in range(1, 7) for floor in all_floors(places)]


def told_alike(one, other, modulus):
    """Whether the differences are multiples, or the sums are."""
    pairs = [(x, y) for row, other_row in zip(one, other) for x, y in zip(row, other_row)]
    return any(all((x + sign * y) % modulus == 0 for x, y in pairs) for sign in (1, -1))


def told_level(floor):
    """The least number of steps T that leads each place to itself."""
    row = step_row(floor, "T")
    places, steps = list(row), 1
    while places != list(range(len(row))):
        places, steps = [row[x] for x in places], steps + 1
    return steps


def does_depend(floor, modulus):
    """Whether no matrix modulo this number is in pairs with two places (Fact 14), from all pairs."""
    seen = {(full_key(IDENTITY, modulus), 0)}
    queue = [(IDENTITY, 0)]
    for matrix, place in queue:
        for letter, row in ((S, floor[0]), (R, floor[1])):
            step = multiplied([matrix, letter])
            pair = (full_key(step, modulus), row[place])
            if pair not in seen:
                seen.add(pair)
                queue.append((step, row[place]))
    return len(seen) == len({key for key, _ in seen})


def told_width(floor, place):
    """The number of steps T from a place to itself."""
    row = step_row(floor, "T")
    steps, x = 1, row[place]
    while x != place:
        steps, x = steps + 1, row[x]
    return steps


def told_lcm(floor):
    """The least common multiple of the widths."""
    return lcm(*[told_width(floor, x) for x in range(len(floor[0]))])


# Floors with levels above 16, or that do not depend on their level.
MIXED = SCATTERED + FLOORS[-1:] + [scattered_floor(places, seed, 1, 1) for places in (7, 8, 9, 10) for seed in range(9)]
NOTHING = [floor for floor in MIXED if told_lcm(floor) > 16 or not does_depend(floor, told_lcm(floor))]


class AreAlike(unittest.TestCase):
    def test_differences(self):
        for one, other, modulus, expected in [
                (T, IDENTITY, 1, True), (T, IDENTITY, 2, False), (((1, 2), (0, 1)), IDENTITY, 2, True),
                (((3, 1), (2, 1)), T, 2, True), (((1, 5), (0, 1)), IDENTITY, 5, True), (((1, -5), (0, 1)), IDENTITY, 5, True),
                (((1, 5), (0, 1)), IDENTITY, 10, False), (((7, 2), (3, 1)), ((1, 2), (0, 1)), 3, True),
                (((1, 0), (4, 1)), IDENTITY, 4, True), (((1, 0), (4, 1)), IDENTITY, 8, False), (R, R, 7, True)]:
            self.assertIs(are_alike(one, other, modulus), expected, (one, other, modulus))
            self.assertIs(are_alike(other, one, modulus), expected)

    def test_sums(self):
        for one, other, modulus in [(((4, -5), (5, -6)), IDENTITY, 5), (((-1, 7), (7, -50)), IDENTITY, 7),
                                    (((2, -1), (3, -1)), ((1, 1), (0, 1)), 3), (((-1, -1), (1, 0)), ((1, 1), (4, 5)), 5)]:
            self.assertTrue(all((x + y) % modulus == 0 for row, rows in zip(one, other) for x, y in zip(row, rows)))
            self.assertTrue(any((x - y) % modulus != 0 for row, rows in zip(one, other) for x, y in zip(row, rows)))
            self.assertIs(are_alike(one, other, modulus), True)
            self.assertIs(are_alike(other, one, modulus), True)

    def test_mixtures_are_not_alike(self):
        # The differences of two entries are multiples, and the sums of the other two are.
        for (a, b), (c, d) in [((5, 2), (2, 1)), ((3, 1), (2, 1)), ((2, 1), (5, 3)), ((5, 12), (2, 5)), ((1, 3), (1, 4))]:
            for modulus in (7, 11, 13, 101, HUGE):
                for shift in (0, modulus, -5 * modulus):
                    one = ((a, b), (c, d))
                    other = multiplied([((-a, b), (c, -d)), ((1, shift), (0, 1))])
                    self.assertFalse(told_alike(one, other, modulus))
                    self.assertIs(are_alike(one, other, modulus), False)
                    self.assertIs(are_alike(other, one, modulus), False)
        self.assertIs(are_alike(((3, 1), (2, 1)), ((-3, 1), (2, -1)), 2), True)
        self.assertIs(are_alike(((3, 2), (4, 3)), ((-3, 2), (4, -3)), 4), True)
        self.assertIs(are_alike(((3, 2), (4, 3)), ((-3, 2), (4, -3)), 8), False)
        self.assertIs(are_alike(((2, 1), (3, 2)), ((-2, 1), (3, -2)), 4), True)

    def test_pairs_of_small_matrices(self):
        rows = [of_letters(word) for word in words_up_to(5)]
        for one, other in product(rows, rows):
            for modulus in (1, 2, 3, 4, 5, 8):
                self.assertIs(are_alike(one, other, modulus), told_alike(one, other, modulus), (one, other, modulus))

    def test_modulus_1_and_2(self):
        for one, other in product(some_matrices()[::9], some_matrices()[-9:]):
            self.assertIs(are_alike(one, other, 1), True)
            even = all((x - y) % 2 == 0 for row, other_row in zip(one, other) for x, y in zip(row, other_row))
            self.assertIs(are_alike(one, other, 2), even)

    def test_great_numbers(self):
        great = multiplied([T, F] * 470)
        for modulus in (HUGE, 10 ** 399, 2 ** 1000):
            self.assertIs(are_alike(((1, modulus), (0, 1)), IDENTITY, modulus), True)
            self.assertIs(are_alike(((1, modulus + 1), (0, 1)), IDENTITY, modulus), False)
            self.assertIs(are_alike(((1, 0), (modulus, 1)), ((1, -modulus), (0, 1)), modulus), True)
            self.assertIs(are_alike(great, great, modulus), True)
            self.assertIs(are_alike(((modulus - 1, -modulus), (modulus, -modulus - 1)), IDENTITY, modulus), True)
            self.assertIs(are_alike(great, IDENTITY, modulus), told_alike(great, IDENTITY, modulus))
        self.assertIs(are_alike(great, undone(undone(great)), 3 ** 200), True)
        for one, other in zip(some_matrices()[-9:], some_matrices()[-10:]):
            for modulus in (2, 3, 4, 7, 16, 1000, 1001):
                self.assertIs(are_alike(one, other, modulus), told_alike(one, other, modulus))

    def test_wrong_matrices(self):
        for value in NO_MATRICES + OTHER_DETERMINANTS + [((-1, 0), (0, -1)), ((0, 1), (-1, 0))]:
            for call in [(value, S, 2), (S, value, 2), (value, value, 2), (value, S, 0), (S, value, 0), (value, S, None)]:
                with self.assertRaises(BadMatrix):
                    are_alike(*call)

    def test_wrong_numbers(self):
        for value in NO_INTEGERS + [0, -1, -2, -HUGE]:
            with self.assertRaises(BadNumber) as caught:
                are_alike(T, S, value)
            self.assertIs(caught.exception.value, value)

    def test_by_name(self):
        self.assertIs(are_alike(modulus=2, other=IDENTITY, one=((1, 2), (0, 1))), True)


class Level(unittest.TestCase):
    def test_example(self):
        self.assertEqual((level(((2, 1, 0), (1, 2, 0))), level(ODD)), (2, 6))

    def test_least_common_multiple(self):
        for floor in FLOORS + SMALL:
            if told_lcm(floor) < 10 ** 4:
                self.assertEqual(level(floor), told_level(floor), floor)
            self.assertEqual(level(floor), told_lcm(floor))
            self.assertIs(type(level(floor)), int)

    def test_groups_that_entries_tell(self):
        for modulus in list(range(1, 31)) + [49, 64, 113]:
            self.assertEqual(level(zero_floor(modulus)), modulus)
        for modulus in range(1, 7):
            self.assertEqual(level(full_floor(modulus)), modulus)

    def test_wrong_floors(self):
        for value, part in WRONG_FLOORS + [(value, "form") for value in STRANGE]:
            with self.assertRaises(BadFloor) as caught:
                level(value)
            self.assertEqual(caught.exception.part, part)
        self.assertEqual(level(floor=ONE), 1)


class Outsider(unittest.TestCase):
    def assert_outsider(self, floor, modulus):
        found = outsider(floor, modulus)
        self.assertTrue(told_alike(found, IDENTITY, modulus))
        self.assertIs(is_member(floor, found), False)
        self.assertEqual(found, outsider(renamed(floor, list(range(len(floor[0])))), modulus))
        self.assertEqual([type(found), type(found[0]), type(found[0][0])], [tuple, tuple, int])

    def test_limit(self):
        self.assertEqual((MAX_MODULUS, moduli.MAX_MODULUS), (16, 16))

    def test_example(self):
        self.assertIsNone(outsider(((2, 1, 0), (1, 2, 0)), 4))

    def test_each_modulus_for_groups_that_entries_tell(self):
        for modulus in range(1, 17):
            for own in list(range(1, 17)) + [17, 22, 32]:
                if modulus % own == 0:
                    self.assertIsNone(outsider(zero_floor(own), modulus))
                else:
                    self.assert_outsider(zero_floor(own), modulus)
            for own in range(1, 7):
                if modulus % own == 0:
                    self.assertIsNone(outsider(full_floor(own), modulus))
                else:
                    self.assert_outsider(full_floor(own), modulus)

    def test_each_modulus_for_floors_that_depend_on_nothing(self):
        for floor in [ODD, CHAIN] + NOTHING:
            for modulus in range(1, 17):
                self.assert_outsider(floor, modulus)

    def test_none_exactly_if_the_floor_depends_on_the_modulus(self):
        for floor in SMALL[::3] + [SMALL[-1]]:
            for modulus in range(1, 10):
                if does_depend(floor, modulus):
                    self.assertIsNone(outsider(floor, modulus))
                    self.assertEqual(modulus % told_level(floor), 0)
                else:
                    self.assert_outsider(floor, modulus)

    def test_multiples_of_the_level_or_nothing(self):
        for floor in SMALL + [zero_floor(13), zero_floor(16)]:
            moduli_of_floor = [modulus for modulus in range(1, 17) if outsider(floor, modulus) is None]
            self.assertIn(moduli_of_floor, [[], [k for k in range(1, 17) if k % told_level(floor) == 0]])

    def test_another_place_0(self):
        for names in (shuffled(12, 4), shuffled(12, 5)):
            self.assertIsNone(outsider(renamed(zero_floor(6), names), 12))
            self.assert_outsider(renamed(zero_floor(6), names), 10)

    def test_wrong_floors_ahead_of_wrong_numbers(self):
        for value, part in WRONG_FLOORS + [(value, "form") for value in STRANGE]:
            for modulus in (1, 16, 0, True, None):
                with self.assertRaises(BadFloor) as caught:
                    outsider(value, modulus)
                self.assertEqual(caught.exception.part, part)

    def test_wrong_numbers(self):
        for value in NO_INTEGERS + [0, 17, -1, -16, 32, HUGE]:
            for floor in (ONE, ODD, CHAIN):
                with self.assertRaises(BadNumber) as caught:
                    outsider(floor, value)
                self.assertIs(caught.exception.value, value)

    def test_by_name(self):
        self.assertIsNone(outsider(modulus=16, floor=EVEN))


class Dependence(unittest.TestCase):
    def test_example(self):
        self.assertEqual((dependence(((2, 1, 0), (1, 2, 0))), dependence(ODD)[0]), (("level", 2), "outsider"))

    def test_floors_that_depend_on_their_level(self):
        self.assertEqual(dependence(ONE), ("level", 1))
        for own in range(1, 17):
            self.assertEqual(dependence(zero_floor(own)), ("level", own))
            self.assertEqual(dependence(as_numbered(zero_floor(own), 1 % len(zero_floor(own)[0]))), ("level", own))
        for own in range(1, 7):
            self.assertEqual(dependence(full_floor(own)), ("level", own))

    def test_floors_that_depend_on_nothing(self):
        tried = 0
        for floor in [ODD] + NOTHING:
            if told_lcm(floor) <= 16:
                tried += 1
                name, matrix = dependence(floor)
                self.assertEqual(name, "outsider")
                self.assertIs(told_alike(matrix, IDENTITY, told_lcm(floor)), True)
                self.assertIs(is_member(floor, matrix), False)
                self.assertIs(type(dependence(floor)), tuple)
                self.assertEqual(dependence(floor), dependence(floor))
        self.assertGreater(tried, 3)

    def test_all_small_floors(self):
        for floor in SMALL:
            self.assertEqual(dependence(floor), ("level", told_level(floor)))
            self.assertIs(is_dependence(floor, ("level", told_level(floor))), True)

    def test_levels_above_16(self):
        high = [floor for floor in NOTHING + [CHAIN] if told_lcm(floor) > 16]
        self.assertGreater(len(high), 3)
        for floor in [zero_floor(17), zero_floor(22), zero_floor(18), zero_floor(113)] + high:
            for value in [None, ("level", told_lcm(floor)), ("level", 16), ("outsider", T), (), 5, object(), True]:
                with self.assertRaises(TooMany) as caught:
                    is_dependence(floor, value)
                self.assertEqual(caught.exception.limit, 16)
            with self.assertRaises(TooMany) as caught:
                dependence(floor)
            self.assertEqual(caught.exception.limit, 16)

    def test_wrong_floors(self):
        for value, part in WRONG_FLOORS + [(value, "form") for value in STRANGE]:
            for call in (lambda: dependence(value), lambda: is_dependence(value, ("level", 1)),
                         lambda: is_dependence(value, None)):
                with self.assertRaises(BadFloor) as caught:
                    call()
                self.assertEqual(caught.exception.part, part)

    def test_by_name(self):
        self.assertEqual(dependence(floor=EVEN), ("level", 2))
        self.assertIs(is_dependence(value=("level", 2), floor=EVEN), True)


class IsDependence(unittest.TestCase):
    def test_values_of_dependence(self):
        for floor in SMALL + [ODD, zero_floor(16), full_floor(6), zero_floor(13)]:
            self.assertIs(is_dependence(floor, dependence(floor)), True)

    def test_every_value_that_the_description_allows(self):
        # ODD has the level 6 and depends on nothing.
        allowed = 0
        for step in [((1, 6), (0, 1)), ((1, 0), (6, 1)), ((7, 6), (36, 31)), ((5, 6), (-6, -7))]:
            for word in words_up_to(6):
                matrix = multiplied([of_letters(word), step, undone(of_letters(word))])
                told = told_alike(matrix, IDENTITY, 6) and not is_member(ODD, matrix)
                self.assertIs(is_dependence(ODD, ("outsider", matrix)), told)
        found = dependence(ODD)[1]
        for word in words_up_to(7):
            matrix = multiplied([found, of_letters(word)])
            told = told_alike(matrix, IDENTITY, 6) and not is_member(ODD, matrix)
            allowed += told
            self.assertIs(is_dependence(ODD, ("outsider", matrix)), told)
        self.assertGreater(allowed, 0)
        self.assertIs(is_dependence(ODD, ("outsider", undone(found))), True)

    def test_a_valid_one_that_dependence_does_not_return(self):
        found = dependence(ODD)[1]
        others = [undone(found), multiplied([((1, 6), (0, 1)), found]), multiplied([found, ((1, -12), (0, 1))])]
        self.assertGreater(len([other for other in others if other != found]), 1)
        for other in others:
            self.assertIs(is_dependence(ODD, ("outsider", other)), True)

    def test_matrices_that_are_no_outsiders(self):
        found = dependence(ODD)[1]
        # Alike and a member; no member and not alike; neither; the negative; another kind.
        for matrix in [IDENTITY, ((1, 6), (0, 1)), F, S, T, R, tuple(tuple(-x for x in row) for row in found), list(found),
                       (list(found[0]), found[1]), found[0], None, 6, "outsider"]:
            self.assertIs(is_dependence(ODD, ("outsider", matrix)), False, matrix)
        for matrix in NO_MATRICES + OTHER_DETERMINANTS:
            self.assertIs(is_dependence(ODD, ("outsider", matrix)), False)

    def test_other_levels(self):
        for floor in (ONE, EVEN, zero_floor(6), zero_floor(16)):
            for number in list(range(-3, 40)) + [HUGE, "2", None, (2,), True, False]:
                told = isinstance(number, int) and not isinstance(number, bool) and number == told_lcm(floor)
                self.assertIs(is_dependence(floor, ("level", number)), told)
            for matrix in (IDENTITY, S, T, F, ((1, 16), (0, 1)), ((1, 0), (6, 1))):
                self.assertIs(is_dependence(floor, ("outsider", matrix)), False)

    def test_the_level_of_a_floor_that_depends_on_nothing(self):
        for number in range(-1, 40):
            self.assertIs(is_dependence(ODD, ("level", number)), False)

    def test_true_in_the_place_of_1(self):
        self.assertIs(is_dependence(ONE, ("level", 1)), True)
        self.assertIs(is_dependence(ONE, ("level", True)), False)
        found = dependence(ODD)[1]
        for at in range(4):
            rows = [*found[0], *found[1]]
            if rows[at] in (0, 1):
                rows[at] = bool(rows[at])
            self.assertIs(is_dependence(ODD, ("outsider", (tuple(rows[:2]), tuple(rows[2:])))), not isinstance(rows[at], bool))

    def test_a_name_that_equals_everything(self):
        class Same:
            """An object that no comparison tells from another one."""

            def __eq__(self, other):
                return True

        for floor in (ONE, EVEN, ODD):
            for second in (level(floor), dependence(floor)[1], Same()):
                self.assertIs(is_dependence(floor, (Same(), second)), False)
            self.assertIs(is_dependence(floor, ("level", Same())), False)
            self.assertIs(is_dependence(floor, Same()), False)

    def test_other_kinds(self):
        found = dependence(ODD)[1]
        for value in STRANGE + [0, 1, 2, "level", "outsider", (), ("level",), ("outsider",), ("level", 2, 2),
                                ("level", 2, None),
                                ["level", 2], ("Level", 2), ("level ", 2), ("outsider", found, found), ["outsider", found],
                                (None, 2), (b"level", 2), (2, "level"), (found, "outsider"), ("members", found),
                                (("level", 2),),
                                {"level": 2}, ("", 2), (1, 2), (object(), 2), ({}, 2), ([], []), ("outsider", 2),
                                ("level", found),
                                ("level", "2"), ("level", (2,)), ("level", [2]), ("outsider", None)]:
            for floor in (EVEN, ODD):
                self.assertIs(is_dependence(floor, value), False, value)


if __name__ == "__main__":
    unittest.main()
