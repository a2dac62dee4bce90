"""Promises [19], [20] and [21]: cycles, their widths, members that take fractions to each other, fixed places, the genus."""

import unittest
from functools import lru_cache
from math import gcd

from cuspfloor.cycles import cycle_of, cycles, fixed, genus, taking, width_of, widths
from cuspfloor.errors import BadFloor, BadFraction
from some_floors import (CHAIN, EVEN, FEW, FLOORS, ODD, ONE, SCATTERED, WRONG_FLOORS, follow, full_floor, renamed, shuffled,
                         step_row, zero_floor)
from support import HUGE, IDENTITY, S, T, multiplied, of_letters, undone, words_up_to
from test_ratios import LARGE, NO_FRACTIONS, SMALL

SOME = SMALL[::5] + [(1, 0), (0, 1), (1, 1), (-1, 1), (1, 2), (-1, 2), (5, 3), (-7, 12)]
# 60 digits at most.
LONG = [(p, q) for p, q in LARGE if max(abs(p), q) < 10 ** 60]


@lru_cache(maxsize=None)
def told_cycles(floor):
    """The cycles, each by following t from its least place."""
    row = step_row(floor, "T")
    found = []
    for x in range(len(row)):
        cycle = [x]
        while row[cycle[-1]] != x:
            cycle.append(row[cycle[-1]])
        if min(cycle) == x:
            found.append(tuple(cycle))
    return tuple(found)


@lru_cache(maxsize=None)
def told_matrix(fraction):
    """The matrix of a fraction, by trying a power of T for each remainder of the inverse of p modulo q."""
    p, q = fraction
    if q == 0:
        return IDENTITY
    y = pow(p, -1, q) if q > 1 else 0
    return ((p, (p * y - 1) // q), (q, y))


def letters_of(matrix):
    """Powers of T with S between them whose product is the matrix, by division with the least remainder."""
    (a, b), (c, d) = matrix
    found = []
    while c != 0:
        k = (2 * a + c) // (2 * c)
        found.append(("T", k))
        found.append(("S", 1))
        # The rest is S times the power -k of T times the matrix.
        (a, b), (c, d) = (-c, -d), (a - k * c, b - k * d)
        if c < 0:
            (a, b), (c, d) = (-a, -b), (-c, -d)
    if a < 0:
        a, b = -a, -b
    return found + [("T", b)]


def told_lead(floor, place, matrix):
    """The place to which a matrix leads a place, by powers of T and S."""
    for letter, k in letters_of(matrix):
        if letter == "S":
            place = floor[0][place]
        else:
            cycle = next(cycle for cycle in told_cycles(floor) if place in cycle)
            place = cycle[(cycle.index(place) + k) % len(cycle)]
    return place


@lru_cache(maxsize=None)
def told_index(floor, fraction):
    place = told_lead(floor, 0, told_matrix(fraction))
    return [place in cycle for cycle in told_cycles(floor)].index(True)


def apply(matrix, fraction):
    (a, b), (c, d) = matrix
    p, q = a * fraction[0] + b * fraction[1], c * fraction[0] + d * fraction[1]
    return (p, q) if q > 0 or (q == 0 and p > 0) else (-p, -q)


class Cycles(unittest.TestCase):
    def test_example(self):
        floor = ((2, 1, 0), (1, 2, 0))
        self.assertEqual((cycles(floor), cycle_of(floor, (1, 2)), taking(floor, (0, 1), (1, 1)), taking(floor, (1, 0), (0, 1))),
                         (((0,), (1, 2)), 0, ((1, 1), (0, 1)), None))

    def test_values(self):
        self.assertEqual(cycles(ONE), ((0,),))
        self.assertEqual(cycles(((1, 0), (0, 1))), ((0, 1),))
        self.assertEqual(cycles(((0, 1, 2), (1, 2, 0))), ((0, 1, 2),))
        self.assertEqual(cycles(((0, 1, 2), (2, 0, 1))), ((0, 2, 1),))
        # t leads 0 to r[s[0]] = r[2] = 0, and 1 to 4.
        self.assertEqual(cycles(ODD), ((0,), (1, 4, 6, 5, 3, 2)))
        self.assertEqual(widths(ODD), (1, 6))

    def test_as_the_document_tells_them(self):
        for floor in FLOORS:
            found = cycles(floor)
            self.assertEqual(found, told_cycles(floor), floor)
            self.assertEqual([type(x) for x in (found, *found)], [tuple] * (1 + len(found)))
            self.assertEqual(list(found), sorted(found))
            self.assertTrue(all(cycle[0] == min(cycle) for cycle in found))
            for cycle in found:
                for x, y in zip(cycle, cycle[1:] + cycle[:1]):
                    self.assertEqual(y, floor[1][floor[0][x]])

    def test_other_numbers(self):
        for floor in FLOORS:
            other = renamed(floor, shuffled(len(floor[0]), 3))
            self.assertEqual(cycles(other), told_cycles(other))
            self.assertEqual(sorted(widths(other)), sorted(widths(floor)))

    def test_widths(self):
        for floor in FLOORS:
            found = widths(floor)
            self.assertIs(type(found), tuple)
            self.assertEqual(found, tuple(len(cycle) for cycle in told_cycles(floor)))
            self.assertEqual(sum(found), len(floor[0]))

    def test_widths_of_groups_that_entries_tell(self):
        # A divisor d of m is the second number of fractions in as many cycles as there are units below gcd(d, m / d).
        for modulus in (2, 3, 4, 5, 6, 8, 9, 11, 12, 13, 22, 37):
            expected = []
            for low in [low for low in range(1, modulus + 1) if modulus % low == 0]:
                common = gcd(low, modulus // low)
                count = sum(gcd(k, common) == 1 for k in range(1, common + 1))
                expected.extend([modulus // gcd(low * low, modulus)] * count)
            self.assertEqual(sorted(widths(zero_floor(modulus))), sorted(expected), modulus)
        for modulus in (2, 3, 4, 5, 6):
            self.assertEqual(set(widths(full_floor(modulus))), {modulus})


class CycleOf(unittest.TestCase):
    def test_infinity_and_0(self):
        for floor in FLOORS:
            found = told_cycles(floor)
            self.assertEqual(cycle_of(floor, (1, 0)), 0)
            self.assertEqual(width_of(floor, (1, 0)), len(found[0]))
            index = [floor[0][0] in cycle for cycle in found].index(True)
            self.assertEqual(cycle_of(floor, (0, 1)), index)
            self.assertEqual(width_of(floor, (0, 1)), len(found[index]))

    def test_as_the_document_tells_it(self):
        for floor in FEW + SCATTERED[5:8] + [CHAIN]:
            for fraction in SOME:
                index = told_index(floor, fraction)
                self.assertEqual(cycle_of(floor, fraction), index, (floor, fraction))
                self.assertEqual(width_of(floor, fraction), len(told_cycles(floor)[index]))

    def test_60_digits(self):
        self.assertGreater(len(LONG), 5)
        for floor in FEW + SCATTERED[-2:]:
            for fraction in LONG:
                index = told_index(floor, fraction)
                self.assertEqual(cycle_of(floor, fraction), index)
                self.assertEqual(width_of(floor, fraction), len(told_cycles(floor)[index]))

    def test_some_hundred_digits(self):
        for floor in (EVEN, ODD, SCATTERED[-2]):
            for fraction in LARGE:
                self.assertEqual(cycle_of(floor, fraction), told_index(floor, fraction))

    def test_integers_have_the_cycle_of_0(self):
        # The powers of T that are members only: an integer k is taken to 0 by the power -k of T.
        for floor in FLOORS:
            width = len(told_cycles(floor)[0])
            for k in (width, -width, 5 * width, HUGE * width):
                self.assertEqual(cycle_of(floor, (k, 1)), cycle_of(floor, (0, 1)))

    def test_same_for_what_members_take_to_each_other(self):
        for floor in (EVEN, ODD, zero_floor(5), full_floor(3), SCATTERED[3]):
            members = [of_letters(word) for word in words_up_to(9) if follow(floor, 0, word) == 0]
            for fraction in SOME[::4]:
                index = cycle_of(floor, fraction)
                for member in members[::5]:
                    self.assertEqual(cycle_of(floor, apply(member, fraction)), index)

    def test_groups_that_entries_tell(self):
        # For c a multiple of m: p / q and u / v have the same cycle if y * v - w * q is a multiple of gcd(q * v, m), where
        # y and w are the inverses of p modulo q and of u modulo v.
        for modulus in (2, 4, 6, 9, 11, 12):
            floor = zero_floor(modulus)
            fractions = [fraction for fraction in SOME[::2] if fraction[1] > 0]
            for one in fractions:
                for other in fractions:
                    y, w = told_matrix(one)[1][1], told_matrix(other)[1][1]
                    common = gcd(one[1] * other[1], modulus)
                    expected = (y * other[1] - w * one[1]) % common == 0
                    self.assertIs(cycle_of(floor, one) == cycle_of(floor, other), expected, (modulus, one, other))
                    self.assertIs(taking(floor, one, other) is not None, expected)


class Taking(unittest.TestCase):
    def assert_taking(self, floor, first, second):
        """The least k of at least 0 for which the product is a member, by trying."""
        one, other = told_matrix(first), told_matrix(second)
        expected = None
        for k in range(len(floor[0])):
            member = multiplied([other, ((1, k), (0, 1)), undone(one)])
            if told_lead(floor, 0, member) == 0:
                expected = member
                break
        found = taking(floor, first, second)
        self.assertEqual(found, expected, (floor, first, second))
        if found is not None:
            self.assertEqual(apply(found, first), second)
        return found

    def test_small_floors(self):
        for floor in (ONE, EVEN, ODD, zero_floor(5), full_floor(3), SCATTERED[3], ((0, 1, 2), (1, 2, 0))):
            for first in SOME[::3]:
                for second in SOME[::4] + [first]:
                    found = self.assert_taking(floor, first, second)
                    self.assertIs(found is None, told_index(floor, first) != told_index(floor, second))

    def test_large_floors_and_fractions(self):
        for floor in (zero_floor(11), SCATTERED[6], CHAIN):
            found = [self.assert_taking(floor, first, second) for first in LONG[::6] + [(1, 0), (0, 1)] for second in LONG[::7]]
            self.assertGreater(len([member for member in found if member is not None]), 1)

    def test_the_least_power_is_from_0_on(self):
        self.assertEqual(taking(ONE, (1, 0), (1, 0)), IDENTITY)
        self.assertEqual(taking(ONE, (1, 0), (0, 1)), S)
        self.assertEqual(taking(ONE, (0, 1), (1, 0)), S)
        self.assertEqual(taking(ONE, (0, 1), (0, 1)), IDENTITY)
        self.assertEqual(taking(ONE, (0, 1), (1, 1)), T)
        self.assertEqual(taking(ONE, (0, 1), (-1, 1)), undone(T))
        powers = {}
        for floor in (zero_floor(5), zero_floor(11), SCATTERED[6]):
            width = width_of(floor, (0, 1))
            for p in range(-width, 2 * width):
                found = taking(floor, (0, 1), (p, 1))
                if found is not None:
                    (_, k), (_, same) = multiplied([undone(told_matrix((p, 1))), found, told_matrix((0, 1))])
                    self.assertEqual(same, 1)
                    self.assertTrue(0 <= k < width)
                    powers[k] = True
        self.assertGreater(len(powers), 1)

    def test_the_same_fraction(self):
        for floor in FEW:
            for fraction in SOME + LONG[:5]:
                self.assertEqual(taking(floor, fraction, fraction), IDENTITY)

    def test_none(self):
        for first, second in [((1, 0), (0, 1)), ((0, 1), (1, 0)), ((1, 2), (1, 1)), ((HUGE, 2), (HUGE, 1)), ((-3, 5), (-3, 4))]:
            self.assertIsNone(taking(EVEN, first, second))

    def test_some_hundred_digits(self):
        for floor in (ONE, EVEN, zero_floor(11)):
            for first in LARGE[::3]:
                found = taking(floor, first, (0, 1)) or taking(floor, first, (1, 0)) or taking(floor, first, (1, 1))
                self.assertIn(apply(found, first), ((0, 1), (1, 0), (1, 1)))
                self.assertEqual(told_lead(floor, 0, found), 0)


class Fixed(unittest.TestCase):
    def test_values(self):
        self.assertEqual((fixed(EVEN), genus(EVEN)), (((1,), ()), 0))
        self.assertEqual(fixed(ONE), ((0,), (0,)))
        self.assertEqual(fixed(((1, 0), (0, 1))), ((), (0, 1)))
        self.assertEqual(fixed(((0, 1, 2), (1, 2, 0))), ((0, 1, 2), ()))
        self.assertEqual(fixed(ODD), ((5,), (6,)))
        self.assertEqual(fixed(((3, 1, 2, 0), (1, 2, 0, 3))), ((1, 2), (3,)))
        self.assertEqual(fixed(zero_floor(11)), ((), ()))

    def test_all_floors(self):
        for floor in FLOORS:
            found = fixed(floor)
            self.assertEqual([type(x) for x in (found, *found)], [tuple] * 3)
            self.assertEqual(found, tuple(tuple(x for x, y in enumerate(row) if x == y) for row in floor))


class Genus(unittest.TestCase):
    def test_values(self):
        for modulus, expected in [(2, 0), (3, 0), (4, 0), (5, 0), (6, 0), (7, 0), (9, 0), (11, 1), (12, 0), (13, 0), (14, 1), (15, 1),
                                  (22, 2), (23, 2), (37, 2), (43, 3), (97, 7), (101, 8), (113, 9)]:
            self.assertEqual(genus(zero_floor(modulus)), expected, modulus)
        for modulus, expected in [(2, 0), (3, 0), (4, 0), (5, 0), (6, 1)]:
            self.assertEqual(genus(full_floor(modulus)), expected, modulus)
        for floor in (ONE, EVEN, ODD, ((1, 0), (0, 1)), ((0, 1, 2), (1, 2, 0))):
            self.assertEqual(genus(floor), 0)

    def test_by_the_formula(self):
        above = 0
        for floor in FLOORS:
            e, f = [sum(x == y for x, y in enumerate(row)) for row in floor]
            found = genus(floor)
            self.assertIs(type(found), int)
            self.assertEqual(12 * found, 12 + len(floor[0]) - 3 * e - 4 * f - 6 * len(told_cycles(floor)))
            above += found > 1
        self.assertGreater(above, 4)

    def test_same_for_relatives(self):
        for floor in SCATTERED:
            self.assertEqual(genus(renamed(floor, shuffled(len(floor[0]), 8))), genus(floor))


class Errors(unittest.TestCase):
    def test_wrong_floors(self):
        for floor, part in WRONG_FLOORS:
            calls = [(function, (floor,)) for function in (cycles, widths, fixed, genus)]
            calls.extend((function, (floor, value)) for function in (cycle_of, width_of) for value in ((1, 0), (2, 4), None))
            calls.extend((taking, (floor, *values)) for values in [((1, 0), (0, 1)), ((2, 4), None), (None, (1, 0))])
            for function, given in calls:
                with self.assertRaises(BadFloor) as caught:
                    function(*given)
                self.assertEqual(caught.exception.part, part)

    def test_wrong_fractions(self):
        for value in NO_FRACTIONS:
            for function, given in [(cycle_of, (EVEN, value)), (width_of, (EVEN, value)), (taking, (EVEN, value, (1, 2))),
                                    (taking, (EVEN, (1, 2), value)), (taking, (EVEN, value, value))]:
                with self.assertRaises(BadFraction):
                    function(*given)

    def test_by_name(self):
        self.assertEqual(cycles(floor=EVEN), ((0,), (1, 2)))
        self.assertEqual(widths(floor=EVEN), (1, 2))
        self.assertEqual(cycle_of(fraction=(0, 1), floor=EVEN), 1)
        self.assertEqual(width_of(fraction=(0, 1), floor=EVEN), 2)
        self.assertEqual(taking(second=(1, 1), floor=EVEN, first=(0, 1)), T)
        self.assertEqual(taking(first=(1, 1), floor=EVEN, second=(0, 1)), ((1, -1), (0, 1)))
        self.assertEqual(fixed(floor=EVEN), ((1,), ()))
        self.assertEqual(genus(floor=EVEN), 0)


if __name__ == "__main__":
    unittest.main()
