"""Promises [12], [14] and [22] for group objects."""

import unittest
from itertools import product

from cuspfloor.errors import BadFloor, BadMatrix, BadRule, TooMany
from cuspfloor.groups import Group
from cuspfloor.rules import Common, Conjugated, LevelFull, LevelOne, LevelZero, Rule
from cuspfloor.several import all_floors, generated, missing
from some_floors import (CHAIN, EVEN, FEW, FLOORS, ODD, ONE, SCATTERED, WITH_120, WITH_121, WRONG_FLOORS, as_numbered,
                         follow, full_floor,
                         in_common, renamed, shuffled, zero_floor)
from support import (F, HUGE, IDENTITY, NO_MATRICES, OTHER_DETERMINANTS, R, S, STRANGE, T, back, multiplied, of_letters,
                     some_matrices,
                     undone, words_up_to)

SMALL = [floor for places in range(1, 5) for floor in all_floors(places)]


def with_other_numbers(floor, seed):
    """The floor with the same group under other numbers."""
    return renamed(floor, [0] + [x + 1 for x in shuffled(len(floor[0]) - 1, seed)])


class GroupTest(unittest.TestCase):
    def assert_group(self, group, floor):
        self.assertIs(type(group), Group)
        self.assertEqual(group.floor, floor)


class Making(GroupTest):
    def test_example(self):
        even = Group(((2, 1, 0), (1, 2, 0)))
        both = even & even.moved(((0, -1), (1, 1)))
        self.assertEqual((len(both), both == Group.of_rule(LevelFull(2)), even == Group.of_rule(LevelZero(2)),
                          ((1, 1), (0, 1)) in both),
                         (6, True, True, False))

    def test_floor_is_standard(self):
        for floor in FLOORS:
            self.assert_group(Group(floor), as_numbered(floor, 0))
            self.assert_group(Group(floor=with_other_numbers(floor, 3)), as_numbered(floor, 0))

    def test_floor_cannot_be_assigned(self):
        group = Group(EVEN)
        with self.assertRaises(AttributeError):
            group.floor = ONE
        self.assertEqual(group.floor, EVEN)

    def test_len(self):
        for floor in FLOORS:
            self.assertEqual(len(Group(floor)), len(floor[0]))

    def test_wrong_floors(self):
        for value, part in WRONG_FLOORS + [(value, "form") for value in STRANGE + [Group(EVEN), LevelZero(2)]]:
            with self.assertRaises(BadFloor) as caught:
                Group(value)
            self.assertEqual(caught.exception.part, part)


class OfRule(GroupTest):
    def test_rules(self):
        for rule in [Rule(), LevelZero(6), LevelOne(5), LevelFull(3), Common(), Common(LevelZero(4), LevelZero(9)),
                     Conjugated(LevelZero(5), F)]:
            group = Group.of_rule(rule)
            self.assert_group(group, rule.standard_floor())
            for word in words_up_to(7):
                self.assertIs(of_letters(word) in group, rule.contains(of_letters(word)))
        self.assert_group(Group.of_rule(rule=LevelZero(2)), EVEN)

    def test_class_below(self):
        class Further(Group):
            """A class that a caller writes."""

        self.assertIs(type(Further.of_rule(Rule())), Further)

    def test_wrong_rules(self):
        for value in STRANGE + [0, "", EVEN, T, Rule, LevelZero, Common, (Rule(),), Group(EVEN)]:
            with self.assertRaises(BadRule):
                Group.of_rule(value)

    def test_too_many(self):
        for rule in [LevelZero(127), LevelFull(7), LevelFull(1000), Common(LevelZero(11), LevelZero(13)),
                     Conjugated(LevelOne(20), R)]:
            with self.assertRaises(TooMany) as caught:
                Group.of_rule(rule)
            self.assertEqual(caught.exception.limit, 120)
        self.assertEqual(len(Group.of_rule(LevelZero(95))), 120)


class Members(GroupTest):
    def test_members(self):
        for floor in FEW + [CHAIN, zero_floor(22), full_floor(4)]:
            group = Group(floor)
            for word in words_up_to(7):
                self.assertIs(of_letters(word) in group, follow(floor, 0, word) == 0)
                self.assertIs(of_letters(word) not in group, follow(floor, 0, word) != 0)
        for matrix in some_matrices():
            self.assertIs(matrix in Group(zero_floor(12)), matrix[1][0] % 12 == 0)

    def test_hundreds_of_digits(self):
        self.assertIs(((1, HUGE), (0, 1)) in Group(EVEN), True)
        self.assertIs(((1, 0), (HUGE, 1)) in Group(zero_floor(13)), HUGE % 13 == 0)
        self.assertIs(((1, 0), (13 * 10 ** 390, 1)) in Group(zero_floor(13)), True)

    def test_other_values(self):
        for group in (Group(ONE), Group(EVEN), Group(CHAIN)):
            for value in NO_MATRICES + OTHER_DETERMINANTS + [((-1, 0), (0, -1)), ((0, 1), (-1, 0)), ((-1, -1), (0, -1)),
                                                             EVEN, group, "",
                                                             "SS", LevelZero(2)]:
                self.assertIs(value in group, False)
                self.assertIs(value not in group, True)


class Equal(GroupTest):
    def test_floors_that_are_numbered_otherwise(self):
        for floor in FLOORS:
            for seed in range(2):
                self.assertIs(Group(floor) == Group(with_other_numbers(floor, seed)), True)
                self.assertIs(Group(floor) != Group(with_other_numbers(floor, seed)), False)

    def test_same_members(self):
        rows = [floor for places in range(1, 7) for floor in all_floors(places)]
        for one, other in product(rows, rows):
            self.assertIs(Group(one) == Group(other), one == other)
        self.assertIs(Group(((1, 0, 2), (2, 0, 1))) == Group(EVEN), True)
        self.assertIs(Group(renamed(EVEN, [1, 0, 2])) == Group(EVEN), False)

    def test_other_values(self):
        for value in STRANGE + [EVEN, as_numbered(EVEN, 0), 3, "", LevelZero(2), (Group(EVEN),), [Group(EVEN)]]:
            self.assertIs(Group(EVEN) == value, False)
            self.assertIs(Group(EVEN) != value, True)


class Together(GroupTest):
    def test_common_members(self):
        for one, other in product(SMALL, SMALL):
            self.assert_group(Group(one) & Group(other), as_numbered(in_common([one, other]), 0))

    def test_generated(self):
        for one, other in product(SMALL + [zero_floor(12)], SMALL + [zero_floor(8), full_floor(4)]):
            self.assert_group(Group(one) | Group(other), generated(one, other))
        self.assert_group(Group(zero_floor(12)) | Group(zero_floor(8)), as_numbered(zero_floor(4), 0))
        self.assert_group(Group(EVEN) | Group(((0, 2, 1), (1, 2, 0))), ONE)

    def test_laws(self):
        groups = [Group(floor) for floor in [ONE, EVEN, ODD, zero_floor(3), zero_floor(6), zero_floor(4), full_floor(2)]]
        for one, other in product(groups, groups):
            self.assertEqual(one & other, other & one)
            self.assertEqual(one | other, other | one)
            self.assertEqual(one & (one | other), one)
            self.assertEqual(one | (one & other), one)
            self.assertIs((one & other).is_within(one), True)
            self.assertIs(one.is_within(one | other), True)
            self.assertIs(one.is_within(other), one & other == one)
            self.assertIs(one.is_within(other), one | other == other)

    def test_operands_stay_as_they_are(self):
        one, other = Group(EVEN), Group(zero_floor(3))
        results = [one & other, one | other, one.moved(R), one.is_within(other), one == other, T in one, len(one)]
        self.assertEqual(len(results), 7)
        self.assertEqual((one.floor, other.floor), (EVEN, as_numbered(zero_floor(3), 0)))

    def test_too_many_exactly_above_120(self):
        self.assertEqual(len(Group(WITH_120[0]) & Group(WITH_120[1])), 120)
        self.assertEqual(len(Group(zero_floor(5)) & Group(zero_floor(19))), 120)
        for one, other in [WITH_121, WITH_121[::-1], (zero_floor(5), zero_floor(23)), (CHAIN, EVEN),
                           (zero_floor(113), SCATTERED[-1])]:
            with self.assertRaises(TooMany) as caught:
                Group(one) & Group(other)
            self.assertEqual(caught.exception.limit, 120)
            self.assertLessEqual(len(Group(one) | Group(other)), 120)


class IsWithin(GroupTest):
    def test_values(self):
        self.assertIs(Group(zero_floor(6)).is_within(Group(EVEN)), True)
        self.assertIs(Group(EVEN).is_within(Group(zero_floor(6))), False)
        self.assertIs(Group(EVEN).is_within(group=Group(ONE)), True)
        self.assertIs(Group(full_floor(2)).is_within(Group(EVEN)), True)
        self.assertIs(Group(ODD).is_within(Group(EVEN)), False)

    def test_pairs(self):
        rows = SMALL + [zero_floor(12), zero_floor(4), full_floor(3), ODD]
        for one, other in product(rows, rows):
            self.assertIs(Group(one).is_within(Group(other)), missing(other, one) is None)
        for one, other in product(range(1, 13), range(1, 13)):
            self.assertIs(Group(zero_floor(one)).is_within(Group(zero_floor(other))), one % other == 0)

    def test_itself(self):
        for floor in FLOORS:
            self.assertIs(Group(floor).is_within(Group(with_other_numbers(floor, 4))), True)


class Moved(GroupTest):
    def test_products_of_the_matrix_a_member_and_the_inverse(self):
        for floor in (EVEN, ODD, zero_floor(5), SCATTERED[0], SCATTERED[4]):
            for way in words_up_to(4):
                moved = Group(floor).moved(of_letters(way))
                for word in words_up_to(5):
                    self.assertIs(of_letters(way + word + back(way)) in moved, follow(floor, 0, word) == 0)

    def test_same_as_the_rule(self):
        for matrix in (R, S, T, F, ((3, 1), (2, 1)), ((1, 10 ** 200), (0, 1))):
            self.assertEqual(Group.of_rule(LevelZero(5)).moved(matrix), Group.of_rule(Conjugated(LevelZero(5), matrix)))

    def test_by_members(self):
        for floor in (EVEN, ODD, zero_floor(5), full_floor(3)):
            for word in words_up_to(7):
                told = Group(floor).moved(of_letters(word)) == Group(floor)
                if follow(floor, 0, word) == 0:
                    self.assertIs(told, True)
        self.assertIs(Group(EVEN).moved(R) == Group(EVEN), False)
        self.assertIs(Group(full_floor(3)).moved(R) == Group(full_floor(3)), True)

    def test_the_direction(self):
        # R leads 0 to 1 and its inverse leads 0 to 2.
        self.assert_group(Group(EVEN).moved(R), as_numbered(EVEN, 2))
        self.assert_group(Group(EVEN).moved(undone(R)), as_numbered(EVEN, 1))

    def test_by_a_product(self):
        for one, other in product(words_up_to(3), words_up_to(3)):
            for floor in (ODD, zero_floor(7)):
                once = Group(floor).moved(multiplied([of_letters(one), of_letters(other)]))
                self.assertEqual(once, Group(floor).moved(of_letters(other)).moved(of_letters(one)))

    def test_back_again(self):
        for matrix in some_matrices()[::40] + some_matrices()[-4:]:
            for floor in (ODD, CHAIN, zero_floor(11)):
                self.assert_group(Group(floor).moved(matrix).moved(undone(matrix)), as_numbered(floor, 0))
        self.assert_group(Group(CHAIN).moved(matrix=IDENTITY), as_numbered(CHAIN, 0))

    def test_wrong_matrices(self):
        for value in NO_MATRICES + OTHER_DETERMINANTS + [((-1, 0), (0, -1)), ((0, 1), (-1, 0))]:
            with self.assertRaises(BadMatrix):
                Group(EVEN).moved(value)
        self.assertIs(S in Group(EVEN).moved(T), False)


if __name__ == "__main__":
    unittest.main()
