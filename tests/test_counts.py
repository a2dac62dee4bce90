"""Promises [23] and [24]: normal floors, the number of standard floors, and all of them."""

import inspect
import unittest
from fractions import Fraction
from math import factorial

from cuspfloor.errors import BadFloor, BadNumber
from cuspfloor.several import all_floors, floor_count, is_normal
from some_floors import (CHAIN, EVEN, FLOORS, ODD, ONE, WRONG_FLOORS, all_small_floors, as_numbered, full_floor, renamed,
                         shuffled, zero_floor)
from support import HUGE, STRANGE

NO_INTEGERS = STRANGE + ["1", "", "6", (), (1,), [1], (1, 0), {1: 1}]

# Fact 12, beginning with one place.
KNOWN_COUNTS = [1, 1, 4, 8, 5, 22, 42, 40, 120, 265, 286, 764, 1729, 2198, 5168, 12144]


def standard_floors(places):
    """The standard floors with so many places, from all floors."""
    return sorted(floor for floor in all_small_floors(places) if as_numbered(floor, 0) == floor)


def restored_rows(n, times):
    """The number of permutations of n places whose power is the identity, for the powers 2 and 3."""
    return sum(factorial(n) // (factorial(k) * times ** k * factorial(n - times * k)) for k in range(n // times + 1))


class IsNormal(unittest.TestCase):
    def test_values(self):
        for floor in [ONE, ((1, 0), (0, 1)), ((0, 1, 2), (1, 2, 0)), ((3, 4, 5, 0, 1, 2), (1, 2, 0, 4, 5, 3)),
                      ((3, 5, 4, 0, 2, 1), (1, 2, 0, 4, 5, 3))]:
            self.assertIs(is_normal(floor), True, floor)
        for floor in [EVEN, ODD, CHAIN, ((0, 2, 1), (1, 2, 0)), ((2, 3, 0, 1), (1, 2, 0, 3))]:
            self.assertIs(is_normal(floor), False, floor)

    def test_all_numberings_are_the_same(self):
        for floor in FLOORS:
            results = {as_numbered(floor, base) for base in range(len(floor[0]))}
            self.assertIs(is_normal(floor), len(results) == 1, floor)

    def test_groups_that_entries_tell(self):
        for modulus in range(1, 7):
            self.assertIs(is_normal(full_floor(modulus)), True)
        for modulus in range(1, 30):
            self.assertIs(is_normal(zero_floor(modulus)), modulus == 1)

    def test_other_numbers(self):
        for floor in (full_floor(5), full_floor(4), zero_floor(12)):
            self.assertIs(is_normal(renamed(floor, shuffled(len(floor[0]), 2))), is_normal(floor))

    def test_wrong_floors(self):
        for value, part in WRONG_FLOORS + [(value, "form") for value in STRANGE]:
            with self.assertRaises(BadFloor) as caught:
                is_normal(value)
            self.assertEqual(caught.exception.part, part)
        self.assertIs(is_normal(floor=ONE), True)


class FloorCount(unittest.TestCase):
    def test_example(self):
        self.assertEqual((floor_count(4), floor_count(5), floor_count(6), floor_count(7)), (8, 5, 22, 42))

    def test_values(self):
        self.assertEqual([floor_count(places) for places in range(1, len(KNOWN_COUNTS) + 1)], KNOWN_COUNTS)

    def test_counted_from_all_floors(self):
        for places in range(1, 7):
            floors = all_small_floors(places)
            self.assertEqual(floor_count(places) * factorial(places - 1), len(floors))
            self.assertEqual(floor_count(places), len(standard_floors(places)))

    def test_same_as_yielded(self):
        for places in range(1, 7):
            self.assertEqual(floor_count(places), len(list(all_floors(places))))

    def test_fact_12_up_to_60(self):
        halves, thirds = [[restored_rows(n, times) for n in range(61)] for times in (2, 3)]
        for n in range(1, 61):
            terms = [Fraction(floor_count(k) * halves[n - k] * thirds[n - k], factorial(n - k)) for k in range(1, n + 1)]
            self.assertEqual(sum(terms), Fraction(halves[n] * thirds[n], factorial(n - 1)))

    def test_exact_integers(self):
        for places in (1, 2, 7, 59, 60):
            self.assertIs(type(floor_count(places)), int)
        self.assertGreater(floor_count(60), 10 ** 15)

    def test_wrong_numbers(self):
        for value in NO_INTEGERS + [0, 61, -1, -60, 120, HUGE, -HUGE]:
            with self.assertRaises(BadNumber) as caught:
                floor_count(value)
            self.assertIs(caught.exception.value, value)

    def test_by_name(self):
        self.assertEqual(floor_count(places=60), floor_count(60))
        with self.assertRaises(BadNumber):
            floor_count(places=61)


class AllFloors(unittest.TestCase):
    def test_example(self):
        self.assertEqual(list(all_floors(2)), [((1, 0), (0, 1))])

    def test_values(self):
        self.assertEqual(list(all_floors(1)), [((0,), (0,))])
        self.assertEqual(list(all_floors(3)), [((0, 1, 2), (1, 2, 0)), ((0, 2, 1), (1, 2, 0)), ((1, 0, 2), (1, 2, 0)),
                                               ((2, 1, 0), (1, 2, 0))])

    def test_none_missing(self):
        for places in range(1, 7):
            self.assertEqual(list(all_floors(places)), standard_floors(places))

    def test_ascending_different_and_standard(self):
        for places in range(1, 7):
            found = list(all_floors(places))
            self.assertEqual(found, sorted(set(found)))
            for floor in found:
                self.assertEqual(as_numbered(floor, 0), floor)
                self.assertEqual(len(floor[0]), places)
                self.assertEqual([type(floor), type(floor[0]), type(floor[1])], [tuple] * 3)
                self.assertEqual({type(x) for row in floor for x in row}, {int})

    def test_two_runs_at_the_same_time(self):
        expected = list(all_floors(6))
        one, other = all_floors(6), all_floors(6)
        found, rest = [], []
        for at in range(len(expected)):
            found.append(next(one))
            if at < 5:
                rest.append(next(other))
            if at == 5:
                other.close()
        self.assertEqual(found, expected)
        self.assertEqual(rest, expected[:5])
        self.assertEqual(list(one), [])
        self.assertEqual(list(other), [])
        self.assertEqual([pair for pair in zip(all_floors(4), all_floors(4))], [(floor, floor) for floor in all_floors(4)])

    def test_error_when_the_first_item_is_requested(self):
        for value in NO_INTEGERS + [0, 7, -1, 60, HUGE]:
            found = all_floors(value)
            self.assertTrue(inspect.isgenerator(found))
            with self.assertRaises(BadNumber) as caught:
                next(found)
            self.assertIs(caught.exception.value, value)
            self.assertEqual(list(found), [])

    def test_by_name(self):
        self.assertEqual(list(all_floors(places=4)), list(all_floors(4)))


if __name__ == "__main__":
    unittest.main()
