"""Promises [27] and [28]: rules, their members, their standard floors and their indexes."""

import unittest
from itertools import product

from cuspfloor.errors import BadMatrix, BadNumber, BadRule, TooMany
from cuspfloor.floors import is_member
from cuspfloor.rules import Common, Conjugated, LevelFull, LevelOne, LevelZero, Rule
from some_floors import (EVEN, ODD, ONE, WITH_120, WITH_121, as_numbered, follow, full_floor, full_key, in_common, is_coprime,
                         modular_floor, zero_floor, zero_key)
from support import (F, HUGE, IDENTITY, NO_MATRICES, OTHER_DETERMINANTS, R, S, STRANGE, T, multiplied, of_letters,
                     some_matrices,
                     undone, words_up_to)

NO_INTEGERS = STRANGE + ["1", "", "16", (), (1,), [1], (1, 0), {1: 1}]
NO_LEVELS = NO_INTEGERS + [0, -1, -2, 1001, HUGE, -HUGE]
NO_RULES = STRANGE + [0, 1, "", "Rule", (), ODD, T, Rule, LevelZero, LevelOne, LevelFull, Common, Conjugated, (Rule(),),
                      [LevelZero(2)],
                      LevelZero(2).contains, is_member]
CLASSES = [LevelZero, LevelOne, LevelFull]
MATRICES = [of_letters(word) for word in words_up_to(9)] + some_matrices()


class Bounded(Rule):
    """The rule of a floor, as a caller may write it."""

    def __init__(self, floor):
        self.floor = floor

    def contains(self, matrix):
        return is_member(self.floor, matrix)


class Nothing(Rule):
    """The rule with the identity alone."""

    def contains(self, matrix):
        return matrix == IDENTITY


class Further(LevelOne):
    """A class below one of the package."""


def told_zero(matrix, level):
    return matrix[1][0] % level == 0


def told_one(matrix, level):
    """Whether some b makes ((1, b), (0, 1)) alike to the matrix."""
    (a, _), (c, d) = matrix
    return any((a - sign) % level == 0 and c % level == 0 and (d - sign) % level == 0 for sign in (1, -1))


def told_full(matrix, level):
    entries = [*matrix[0], *matrix[1]]
    return any(all((x - sign * y) % level == 0 for x, y in zip(entries, (1, 0, 0, 1))) for sign in (1, -1))


TOLD = {LevelZero: told_zero, LevelOne: told_one, LevelFull: told_full}


def one_key(matrix, modulus):
    """Two matrices have the same key if one is the other one times a member of LevelOne."""
    return max(tuple(sign * x % modulus for x in matrix[1]) for sign in (1, -1))


KEYS = {LevelZero: zero_key, LevelOne: one_key, LevelFull: full_key}


class EveryRule(unittest.TestCase):
    def test_all_matrices(self):
        for matrix in MATRICES:
            self.assertIs(Rule().contains(matrix), True)
        self.assertEqual(Rule().standard_floor(), ONE)

    def test_classes(self):
        self.assertEqual(LevelZero.__bases__, (Rule,))
        self.assertEqual(LevelOne.__bases__, (LevelZero,))
        self.assertEqual(LevelFull.__bases__, (LevelOne,))
        self.assertEqual(Common.__bases__, (Rule,))
        self.assertEqual(Conjugated.__bases__, (Rule,))

    def test_wrong_matrices(self):
        for rule in [Rule(), LevelZero(2), LevelOne(3), LevelFull(4), LevelZero(1), Common(), Common(LevelZero(2), Rule()),
                     Conjugated(LevelZero(2), R), Conjugated(Nothing(), S), Common(Nothing())]:
            for value in NO_MATRICES + OTHER_DETERMINANTS + [((-1, 0), (0, -1)), ((0, 1), (-1, 0))]:
                with self.assertRaises(BadMatrix):
                    rule.contains(value)
            with self.assertRaises(BadMatrix):
                rule.contains(matrix=None)
            self.assertIs(rule.contains(matrix=IDENTITY), True)


class Contains(unittest.TestCase):
    def test_as_the_document_tells_it(self):
        for kind, told in TOLD.items():
            for level in (1, 2, 3, 4, 5, 6, 8, 12, 60, 999, 1000):
                rule = kind(level)
                for matrix in MATRICES:
                    self.assertIs(rule.contains(matrix), told(matrix, level), (kind, level, matrix))

    def test_values(self):
        for rule, matrix, expected in [
                (LevelZero(2), F, False), (LevelZero(2), T, True), (LevelZero(2), ((3, 1), (2, 1)), True),
                (LevelZero(1), S, True),
                (LevelZero(5), ((2, 1), (5, 3)), True), (LevelOne(5), ((2, 1), (5, 3)), False),
                (LevelOne(5), ((6, 1), (5, 1)), True),
                (LevelFull(5), ((6, 1), (5, 1)), False), (LevelFull(5), ((6, 5), (25, 21)), True),
                (LevelFull(2), ((3, 2), (4, 3)), True),
                (LevelFull(4), ((3, 2), (4, 3)), False), (LevelOne(4), ((3, 2), (4, 3)), True), (LevelOne(1), R, True),
                (LevelFull(1), R, True), (LevelFull(2), S, False), (LevelOne(2), S, False),
                (LevelZero(1000), ((1, 0), (1000, 1)), True)]:
            self.assertIs(rule.contains(matrix), expected, (rule, matrix))

    def test_b_may_be_any_integer_for_level_one(self):
        for level in (2, 3, 7, 1000):
            for b in (-3, -1, 0, 1, 2, level, level + 1, HUGE, -HUGE):
                self.assertIs(LevelOne(level).contains(((1, b), (0, 1))), True)
                self.assertIs(LevelFull(level).contains(((1, b), (0, 1))), b % level == 0)

    def test_sign(self):
        for level in (3, 4, 5, 7, 12, 1000):
            # a = d = -1 modulo the level.
            minus = ((level - 1, -level), (level, -level - 1))
            self.assertIs(LevelFull(level).contains(minus), True)
            self.assertIs(LevelOne(level).contains(multiplied([minus, T])), True)
            self.assertIs(LevelFull(level).contains(multiplied([minus, T])), False)

    def test_level_one_of_8_is_not_each_root_of_1(self):
        # 3 * 3 = 1 modulo 8.
        self.assertIs(LevelOne(8).contains(((3, 1), (8, 3))), False)
        self.assertIs(LevelZero(8).contains(((3, 1), (8, 3))), True)
        self.assertIs(LevelOne(12).contains(((5, 2), (12, 5))), False)


class Levels(unittest.TestCase):
    def test_level(self):
        for kind in CLASSES + [Further]:
            for level in (1, 2, 60, 999, 1000):
                self.assertEqual(kind(level).level, level)
                self.assertEqual(kind(level=level).level, level)
                self.assertIs(type(kind(level).level), int)

    def test_level_is_inherited(self):
        self.assertIsInstance(LevelZero.__dict__["level"], property)
        for kind in (LevelOne, LevelFull):
            self.assertNotIn("level", kind.__dict__)

    def test_wrong_levels(self):
        for kind in CLASSES:
            for value in NO_LEVELS:
                for call in (kind, kind.size, lambda level: kind.size(level=level), lambda level: kind(level=level)):
                    with self.assertRaises(BadNumber) as caught:
                        call(value)
                    self.assertIs(caught.exception.value, value)


class Size(unittest.TestCase):
    def test_values(self):
        self.assertEqual([LevelZero.size(level) for level in range(1, 13)], [1, 3, 4, 6, 6, 12, 8, 12, 12, 18, 12, 24])
        self.assertEqual([LevelOne.size(level) for level in range(1, 13)], [1, 3, 4, 6, 12, 12, 24, 24, 36, 36, 60, 48])
        self.assertEqual([LevelFull.size(level) for level in range(1, 9)], [1, 6, 12, 24, 60, 72, 168, 192])
        self.assertEqual([kind.size(1000) for kind in CLASSES], [1800, 360000, 360000000])
        self.assertEqual([kind.size(997) for kind in CLASSES], [998, 497004, 495512988])
        self.assertEqual([kind.size(961) for kind in CLASSES], [992, 461280, 443290080])
        self.assertEqual([kind.size(210) for kind in CLASSES], [576, 13824, 2903040])
        self.assertEqual([kind.size(667) for kind in CLASSES], [720, 221760, 147913920])
        self.assertEqual([kind.size(2) for kind in CLASSES], [3, 3, 6])

    def test_number_of_places(self):
        for kind in CLASSES:
            for level in range(1, 14 if kind is not LevelFull else 9):
                self.assertEqual(kind.size(level), len(modular_floor(level, KEYS[kind])[0][0]), (kind, level))
        for level in (16, 18, 25, 30):
            self.assertEqual(LevelZero.size(level), len(zero_floor(level)[0]))

    def test_numbers_of_matrices_modulo_the_level(self):
        for level in range(1, 13):
            rows = [(a, b, c, d) for a, b, c, d in product(range(level), repeat=4) if (a * d - b * c - 1) % level == 0]
            signs = {min(row, tuple(-x % level for x in row)) for row in rows}
            self.assertEqual(LevelFull.size(level), len(signs))

    def test_all_levels_by_their_primes(self):
        for level in range(1, 1001):
            rows = level * level
            lines = level
            for prime in range(2, level + 1):
                if level % prime == 0 and all(prime % k for k in range(2, prime)):
                    lines += lines // prime
                    rows -= rows // (prime * prime)
            one = {1: 1, 2: 3}.get(level, rows // 2)
            self.assertEqual([kind.size(level) for kind in CLASSES], [lines, one, level * one])

    def test_of_an_object_and_of_a_class_below(self):
        self.assertEqual(LevelFull(3).size(5), 60)
        self.assertEqual(Further.size(5), 12)
        self.assertIs(type(LevelOne.size(5)), int)


class LevelsWith(unittest.TestCase):
    def test_example(self):
        self.assertEqual(LevelZero.levels_with(((3, 1), (2, 1)), most=6), (1, 2))

    def test_values(self):
        self.assertEqual(LevelZero.levels_with(((1, 0), (60, 1))), (1, 2, 3, 4, 5, 6, 10, 12, 15, 20, 30, 60))
        self.assertEqual(LevelOne.levels_with(((3, 4), (8, 11))), (1, 2, 4))
        self.assertEqual(LevelZero.levels_with(((3, 4), (8, 11))), (1, 2, 4, 8))
        self.assertEqual(LevelFull.levels_with(((3, 1), (8, 3))), (1,))
        self.assertEqual(LevelFull.levels_with(((7, 6), (36, 31))), (1, 2, 3, 6))
        for kind in CLASSES:
            self.assertEqual(kind.levels_with(IDENTITY, most=5), (1, 2, 3, 4, 5))
            self.assertEqual(kind.levels_with(S, most=1), (1,))
            self.assertEqual(kind.levels_with(F), (1,))

    def test_as_the_document_tells_it(self):
        for kind, told in TOLD.items():
            for matrix in MATRICES[::7] + some_matrices()[-9:] + [((7, 6), (36, 31))]:
                for most in (1, 2, 59, 60, 61):
                    expected = tuple(level for level in range(1, most + 1) if told(matrix, level))
                    self.assertEqual(kind.levels_with(matrix, most=most), expected)
                self.assertEqual(kind.levels_with(matrix), kind.levels_with(matrix, most=60))

    def test_most_1000(self):
        for kind, told in TOLD.items():
            for matrix in (IDENTITY, ((1, 1000), (0, 1)), ((1, 0), (840, 1)), ((705601, 840), (840, 1)), ((1, 997), (0, 1))):
                found = kind.levels_with(matrix, most=1000)
                self.assertEqual(found, tuple(level for level in range(1, 1001) if told(matrix, level)))
                self.assertIs(type(found), tuple)

    def test_of_an_object_and_of_a_class_below(self):
        self.assertEqual(LevelFull(7).levels_with(((1, 6), (0, 1)), most=9), (1, 2, 3, 6))
        self.assertEqual(Further.levels_with(T, most=4), (1, 2, 3, 4))

    def test_wrong_numbers(self):
        for kind in CLASSES:
            for value in NO_LEVELS:
                with self.assertRaises(BadNumber) as caught:
                    kind.levels_with(T, most=value)
                self.assertIs(caught.exception.value, value)
            with self.assertRaises(TypeError):
                kind.levels_with(T, 6)

    def test_wrong_matrices_ahead_of_wrong_numbers(self):
        for kind in CLASSES:
            for value in NO_MATRICES + OTHER_DETERMINANTS:
                for most in (6, 0, None):
                    with self.assertRaises(BadMatrix):
                        kind.levels_with(value, most=most)
        self.assertEqual(LevelZero.levels_with(most=3, matrix=T), (1, 2, 3))


class StandardFloor(unittest.TestCase):
    def test_example(self):
        self.assertEqual(LevelZero(3).standard_floor(), ((2, 3, 0, 1), (1, 2, 0, 3)))

    def test_values(self):
        self.assertEqual(LevelZero(2).standard_floor(), EVEN)
        self.assertEqual(LevelFull(2).standard_floor(), ((3, 5, 4, 0, 2, 1), (1, 2, 0, 4, 5, 3)))
        self.assertEqual([kind(1).standard_floor() for kind in CLASSES], [ONE] * 3)

    def test_groups_that_entries_tell(self):
        for kind, most in ((LevelZero, 40), (LevelOne, 13), (LevelFull, 6)):
            for level in range(1, most + 1):
                if kind.size(level) <= 120:
                    found = kind(level).standard_floor()
                    self.assertEqual(found, as_numbered(modular_floor(level, KEYS[kind])[0], 0))
                    self.assertEqual(len(found[0]), kind.size(level))

    def test_members_are_those_of_the_rule(self):
        rules = [Rule(), LevelZero(6), LevelOne(5), LevelFull(4), Common(LevelZero(4), LevelOne(3)), Common(), Bounded(ODD),
                 Conjugated(LevelZero(4), F), Common(Bounded(ODD), LevelZero(2)),
                 Conjugated(Bounded(ODD), of_letters("SRSrSR")),
                 Conjugated(Conjugated(LevelOne(5), R), S)]
        for rule in rules:
            found = rule.standard_floor()
            for word in words_up_to(8):
                self.assertIs(follow(found, 0, word) == 0, rule.contains(of_letters(word)))
            self.assertEqual(as_numbered(found, 0), found)
            self.assertEqual([type(found), type(found[0]), type(found[1]), type(found[0][0])], [tuple, tuple, tuple, int])

    def test_exactly_120_places(self):
        for rule in [Common(LevelZero(3), LevelZero(29)), Common(LevelZero(5), LevelZero(19)),
                     Common(Bounded(WITH_120[0]), Bounded(WITH_120[1])),
                     Conjugated(Common(LevelZero(5), LevelZero(19)), F)]:
            found = rule.standard_floor()
            self.assertEqual(len(found[0]), 120)
            self.assertEqual(as_numbered(found, 0), found)
        self.assertEqual(Common(Bounded(WITH_120[0]), Bounded(WITH_120[1])).standard_floor(),
                         as_numbered(in_common(WITH_120), 0))
        self.assertEqual(Common(LevelZero(5), LevelZero(19)).standard_floor(), as_numbered(zero_floor(95), 0))
        self.assertEqual(LevelZero.size(95), 120)
        self.assertEqual(LevelZero(95).standard_floor(), as_numbered(zero_floor(95), 0))

    def test_more_than_120_places(self):
        for rule in [LevelZero(127), LevelZero(121), LevelOne(17), LevelOne(20), LevelFull(7), LevelFull(1000),
                     LevelZero(1000), LevelOne(1000),
                     Nothing(), Common(Bounded(WITH_121[0]), Bounded(WITH_121[1])), Common(LevelZero(11), LevelZero(13)),
                     Conjugated(LevelFull(7), F), Common(Bounded(ODD), LevelZero(19)),
                     Common(LevelZero(3), LevelZero(113))]:
            with self.assertRaises(TooMany) as caught:
                rule.standard_floor()
            self.assertEqual(caught.exception.limit, 120)

    def test_all_levels_near_the_limit(self):
        for level in range(70, 120):
            if LevelZero.size(level) <= 120:
                self.assertEqual(len(LevelZero(level).standard_floor()[0]), LevelZero.size(level))
            else:
                with self.assertRaises(TooMany):
                    LevelZero(level).standard_floor()

    def test_a_rule_that_a_caller_writes(self):
        for floor in (ODD, EVEN, ONE, full_floor(3), zero_floor(22)):
            self.assertEqual(Bounded(floor).standard_floor(), as_numbered(floor, 0))
        both = Common(Bounded(ODD), LevelZero(3), Bounded(EVEN))
        self.assertEqual(both.standard_floor(), as_numbered(in_common([ODD, zero_floor(3), EVEN]), 0))


class CommonRules(unittest.TestCase):
    def test_example(self):
        self.assertEqual(len(Common(LevelZero(2), LevelZero(3)).standard_floor()[0]), 12)

    def test_none(self):
        for matrix in MATRICES[::5]:
            self.assertIs(Common().contains(matrix), True)
        self.assertEqual(Common().standard_floor(), ONE)

    def test_several(self):
        rules = [LevelZero(2), LevelOne(3), LevelFull(2), Rule(), Bounded(ODD), Conjugated(LevelZero(2), R), Nothing()]
        for one, other in product(rules, rules):
            both = Common(one, other)
            for matrix in MATRICES[::6]:
                self.assertIs(both.contains(matrix), one.contains(matrix) and other.contains(matrix))
        for matrix in MATRICES[::3]:
            expected = all(rule.contains(matrix) for rule in rules[:4])
            self.assertIs(Common(*rules[:4]).contains(matrix), expected)
            self.assertIs(Common(Common(rules[0], Common()), Common(*rules[1:4])).contains(matrix), expected)

    def test_wrong_rules(self):
        for value in NO_RULES:
            for call in [(value,), (Rule(), value), (value, LevelZero(2)), (LevelZero(2), value, None)]:
                with self.assertRaises(BadRule):
                    Common(*call)


class ConjugatedRules(unittest.TestCase):
    def test_example(self):
        self.assertIs(Conjugated(LevelZero(2), ((0, -1), (1, 1))).contains(((1, 1), (0, 1))), False)

    def test_products_of_a_matrix_a_member_and_the_inverse(self):
        for rule in (LevelZero(2), LevelOne(5), Bounded(ODD), Nothing(), Common(LevelZero(2), LevelZero(3))):
            for way in (R, S, T, F, of_letters("SRSrSrS"), ((1, 10 ** 200), (0, 1)), some_matrices()[-3]):
                moved = Conjugated(rule, way)
                for matrix in MATRICES[:300]:
                    self.assertIs(moved.contains(multiplied([way, matrix, undone(way)])), rule.contains(matrix))

    def test_the_other_way_round_is_another_rule(self):
        moved = Conjugated(LevelZero(4), R)
        self.assertIs(moved.contains(multiplied([R, T, undone(R)])), True)
        self.assertIs(moved.contains(multiplied([undone(R), T, R])), False)

    def test_nested(self):
        one = Conjugated(Conjugated(LevelZero(5), F), of_letters("RSr"))
        other = Conjugated(LevelZero(5), multiplied([of_letters("RSr"), F]))
        for matrix in MATRICES[::2]:
            self.assertIs(one.contains(matrix), other.contains(matrix))
        self.assertEqual(one.standard_floor(), other.standard_floor())
        rule = LevelZero(4)
        for _ in range(15):
            rule = Conjugated(rule, F)
        self.assertEqual(rule.standard_floor(), Conjugated(LevelZero(4), ((1, 0), (15, 1))).standard_floor())

    def test_wrong_arguments(self):
        for value in NO_RULES:
            for matrix in (T, None, ((1, 2), (3, 4))):
                with self.assertRaises(BadRule):
                    Conjugated(value, matrix)
        for value in NO_MATRICES + OTHER_DETERMINANTS:
            with self.assertRaises(BadMatrix):
                Conjugated(Rule(), value)
        with self.assertRaises(BadRule):
            Conjugated(matrix=None, rule=None)
        self.assertIs(Conjugated(matrix=R, rule=LevelZero(2)).contains(T), False)


class InAll(unittest.TestCase):
    def test_none_one_several(self):
        for matrix in MATRICES[::4]:
            self.assertIs(Rule.in_all(matrix), True)
            self.assertIs(Rule.in_all(matrix, LevelZero(2)), told_zero(matrix, 2))
            self.assertIs(Rule.in_all(matrix, LevelZero(2), LevelZero(3)), told_zero(matrix, 6))
            self.assertIs(Rule.in_all(matrix, LevelFull(2), Rule(), LevelOne(3), Common()), told_full(matrix, 2)
                          and told_one(matrix, 3))

    def test_static(self):
        self.assertIsInstance(Rule.__dict__["in_all"], staticmethod)
        self.assertIs(LevelZero(5).in_all(F, LevelZero(1)), True)
        self.assertIs(LevelZero.in_all(F, LevelZero(2)), False)

    def test_wrong_rules(self):
        for value in NO_RULES:
            for call in [(value,), (Rule(), value), (value, LevelZero(2)), (LevelZero(2), value, None), (Nothing(), value)]:
                with self.assertRaises(BadRule):
                    Rule.in_all(F, *call)

    def test_wrong_matrices_ahead_of_wrong_rules(self):
        for value in NO_MATRICES + OTHER_DETERMINANTS:
            for call in [(), (Rule(),), (None,), (LevelZero(2), LevelZero)]:
                with self.assertRaises(BadMatrix):
                    Rule.in_all(value, *call)
        self.assertIs(Rule.in_all(matrix=T), True)


class Independent(unittest.TestCase):
    def test_rules_stay_as_they_are(self):
        one, other = LevelZero(2), LevelZero(3)
        both = Common(one, other)
        moved = Conjugated(one, R)
        for _ in range(2):
            self.assertEqual((one.level, other.level), (2, 3))
            self.assertEqual(len(both.standard_floor()[0]), 12)
            self.assertEqual(len(moved.standard_floor()[0]), 3)
            self.assertEqual(one.standard_floor(), EVEN)

    def test_units_modulo_the_level(self):
        # Of the members of LevelZero, LevelOne leaves out those whose a is neither 1 nor -1.
        for level in range(3, 13):
            units = [k for k in range(level) if is_coprime(k, level)]
            self.assertEqual(LevelOne.size(level) * 2, LevelZero.size(level) * len(units))


if __name__ == "__main__":
    unittest.main()
