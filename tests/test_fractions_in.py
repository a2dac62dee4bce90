"""Promise [20]: the fractions of a cycle, one after the other."""

import unittest
from itertools import islice
from math import gcd

from cuspfloor.cycles import cycle_of, cycles, fractions_in
from cuspfloor.errors import BadFloor, BadNumber
from some_floors import CHAIN, EVEN, FEW, ODD, ONE, SCATTERED, WRONG_FLOORS, full_floor, zero_floor
from support import HUGE, STRANGE
from test_cycles import told_cycles, told_index

NO_INTEGERS = STRANGE + ["0", "", "1", (), (0,), [1], (1, 0), 1.0]


def all_up_to(most):
    """(1, 0), and the fractions from 0 to 1 by their second numbers."""
    return [(1, 0)] + [(p, q) for q in range(1, most + 1) for p in range(q) if gcd(p, q) == 1]


class FractionsIn(unittest.TestCase):
    def test_example(self):
        self.assertEqual(list(fractions_in(((2, 1, 0), (1, 2, 0)), 0, most=4)), [(1, 0), (1, 2), (1, 4), (3, 4)])

    def test_values(self):
        self.assertEqual(list(fractions_in(EVEN, 1, most=5)), [(0, 1), (1, 3), (2, 3), (1, 5), (2, 5), (3, 5), (4, 5)])
        self.assertEqual(list(fractions_in(ONE, 0, most=6)), all_up_to(6))
        self.assertEqual(list(fractions_in(ONE, 0, most=0)), [(1, 0)])
        self.assertEqual(list(fractions_in(ONE, 0, most=1)), [(1, 0), (0, 1)])
        self.assertEqual(list(fractions_in(EVEN, 0, most=0)), [(1, 0)])
        self.assertEqual(list(fractions_in(EVEN, 0, most=1)), [(1, 0)])
        self.assertEqual(list(fractions_in(EVEN, 1, most=0)), [])
        self.assertEqual(list(fractions_in(EVEN, 1, most=1)), [(0, 1)])

    def test_each_fraction_for_exactly_one_cycle_in_the_documented_order(self):
        for floor in FEW + [SCATTERED[5], zero_floor(12), full_floor(4)]:
            indexes = [(fraction, told_index(floor, fraction)) for fraction in all_up_to(14)]
            found = []
            for index in range(len(told_cycles(floor))):
                part = list(fractions_in(floor, index, most=14))
                self.assertEqual(part, [fraction for fraction, at in indexes if at == index])
                found.extend(part)
            self.assertEqual(sorted(found), sorted(all_up_to(14)))

    def test_kinds_of_the_items(self):
        for fraction in fractions_in(ONE, 0, most=5):
            self.assertEqual([type(x) for x in (fraction, *fraction)], [tuple, int, int])

    def test_same_as_cycle_of(self):
        for floor in (CHAIN, SCATTERED[-2]):
            for index in (0, len(cycles(floor)) - 1):
                found = list(fractions_in(floor, index, most=40))
                self.assertEqual(found, [fraction for fraction in all_up_to(40) if cycle_of(floor, fraction) == index])

    def test_a_group_that_entries_tell(self):
        self.assertEqual(list(fractions_in(EVEN, 0, most=60)), [(p, q) for p, q in all_up_to(60) if q % 2 == 0])
        self.assertEqual(list(fractions_in(zero_floor(13), 0, most=60)), [(p, q) for p, q in all_up_to(60) if q % 13 == 0])

    def test_most_1000(self):
        self.assertEqual(list(islice(fractions_in(EVEN, 0, most=1000), 200)),
                         [(p, q) for p, q in all_up_to(60) if q % 2 == 0][:200])
        self.assertEqual(list(islice(fractions_in(CHAIN, 0, most=1000), 3)), list(fractions_in(CHAIN, 0, most=60))[:3])

    def test_most_1000_to_the_end(self):
        last = None
        for last in fractions_in(EVEN, 0, most=1000):
            pass
        self.assertEqual(last, (999, 1000))

    def test_two_runs_at_the_same_time(self):
        one, other = fractions_in(EVEN, 1, most=20), fractions_in(EVEN, 1, most=20)
        whole = list(fractions_in(EVEN, 1, most=20))
        third = fractions_in(ODD, 0, most=20)
        self.assertEqual([next(one), next(one), next(other)], [whole[0], whole[1], whole[0]])
        self.assertEqual(next(third), (1, 0))
        one.close()
        self.assertEqual(list(other), whole[1:])
        self.assertEqual(list(one), [])
        self.assertEqual(list(third), list(fractions_in(ODD, 0, most=20))[1:])

    def test_a_generator(self):
        found = fractions_in(EVEN, 0, most=4)
        self.assertIs(iter(found), found)
        self.assertEqual(list(found), [(1, 0), (1, 2), (1, 4), (3, 4)])
        self.assertEqual(list(found), [])


class Errors(unittest.TestCase):
    def assert_first_item_raises(self, expected, found):
        with self.assertRaises(expected) as caught:
            next(found)
        return caught.exception

    def test_wrong_floors(self):
        for floor, part in WRONG_FLOORS:
            for index, most in [(0, 4), (7, 4), (None, 4), (0, -1), (-1, None)]:
                found = fractions_in(floor, index, most=most)
                self.assertEqual(self.assert_first_item_raises(BadFloor, found).part, part)

    def test_wrong_indexes(self):
        for floor in (ONE, EVEN, CHAIN):
            for index in NO_INTEGERS + [-1, len(told_cycles(floor)), len(told_cycles(floor)) + 1, HUGE, -HUGE]:
                for most in (4, 0, -1, 1001, None):
                    found = fractions_in(floor, index, most=most)
                    self.assertIs(self.assert_first_item_raises(BadNumber, found).value, index)

    def test_wrong_most(self):
        for most in NO_INTEGERS + [-1, -2, 1001, HUGE, -HUGE]:
            found = fractions_in(EVEN, 1, most=most)
            self.assertIs(self.assert_first_item_raises(BadNumber, found).value, most)

    def test_most_only_by_name(self):
        with self.assertRaises(TypeError):
            fractions_in(EVEN, 0, 4)
        with self.assertRaises(TypeError):
            fractions_in(EVEN, 0)

    def test_by_name(self):
        self.assertEqual(list(fractions_in(most=2, index=0, floor=EVEN)), [(1, 0), (1, 2)])
        found = fractions_in(most=-1, index=7, floor=EVEN)
        self.assertEqual(self.assert_first_item_raises(BadNumber, found).value, 7)


if __name__ == "__main__":
    unittest.main()
