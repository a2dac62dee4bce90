"""Promises [12] and [31]: what a floor is, and which part of a wrong one counts."""

import unittest
from itertools import permutations, product

from cuspfloor import floors
from cuspfloor.errors import BadFloor
from cuspfloor.floors import MAX_PLACES, check_floor, is_floor
from some_floors import CHAIN, EVEN, FLOORS, ODD, ONE, SCATTERED, all_small_floors, reachable, renamed, restored, shuffled
from support import F, HUGE, IDENTITY, NO_MATRICES, STRANGE, T

NO_PAIRS = STRANGE + [
    0, 1, 120, HUGE, "", "form", "2 1 0 / 1 2 0", (), ((),), ((), ()), ((0,),), ((0,), (0,), (0,)), (0, 0), (True, False), (0, (0,)),
    ((0,), 0), ((0,), None), (None, (0,)), [(0,), (0,)], ([0], [0]), ([0], (0,)), ((0,), [0]), {(0,): (0,)}, ((0,), {0: 0}),
    ("0", "0"), ("ab", "ba"), (b"\x00", b"\x00"), ((0,), b"\x00"), ((0,), ()), ((), (0,)), ((0, 1), (0,)), ((0,), (0, 1)),
    ((2, 1, 0), (1, 2)), ((2, 1), (1, 2, 0)), ((2, 1, 0), (1, 2, 0), ()), (((0,), (0,)),), (range(1), range(1)), ((0,), {0}),
    [[2, 1, 0], [1, 2, 0]], ([2, 1, 0], (1, 2, 0)), ((2, 1, 0), [1, 2, 0])]

WRONG_PLACES = [True, False, None, -1, 3, 4, 120, HUGE, -HUGE, "0", "1", b"0", (), (0,), [0], {}, {0}, object(), 1.0]


def long_floor(places):
    """A floor with any number of places from 3, a multiple of 3, in which the way goes on from tile to tile."""
    s = [x + 1 if x % 3 == 2 else x - 1 if x % 3 == 0 else x for x in range(places)]
    s[0], s[places - 1] = 0, places - 1
    return (tuple(s), tuple(x - 2 if x % 3 == 2 else x + 1 for x in range(places)))


class FloorTest(unittest.TestCase):
    def assert_wrong(self, part, value):
        with self.assertRaises(BadFloor) as caught:
            check_floor(value)
        self.assertEqual(caught.exception.part, part, value)
        self.assertIs(is_floor(value), False)

    def assert_floor(self, value):
        self.assertIsNone(check_floor(value))
        self.assertIs(is_floor(value), True)


class Floors(FloorTest):
    def test_limit(self):
        self.assertEqual((floors.MAX_PLACES, MAX_PLACES), (120, 120))

    def test_example(self):
        self.assert_wrong("connected", ((0, 1), (0, 1)))

    def test_floors(self):
        for floor in FLOORS:
            self.assert_floor(floor)

    def test_all_pairs_of_rows(self):
        for places in (1, 2, 3, 4):
            found = []
            for s in permutations(range(places)):
                for r in permutations(range(places)):
                    if not restored(s, 2):
                        self.assert_wrong("s", (s, r))
                    elif not restored(r, 3):
                        self.assert_wrong("r", (s, r))
                    elif len(reachable(s, r)) < places:
                        self.assert_wrong("connected", (s, r))
                    else:
                        self.assert_floor((s, r))
                        found.append((s, r))
            self.assertEqual(found, all_small_floors(places))

    def test_other_numbers(self):
        for floor in (EVEN, ODD, *SCATTERED, CHAIN):
            for seed in range(3):
                self.assert_floor(renamed(floor, shuffled(len(floor[0]), seed)))

    def test_number_of_places(self):
        self.assert_floor(ONE)
        self.assert_floor(long_floor(117))
        self.assert_floor(long_floor(120))
        for places in (123, 150, 9000):
            self.assert_wrong("form", long_floor(places))
        # With 121 places: one more tile of one place at the end of the way.
        s, r = long_floor(120)
        self.assert_wrong("form", (s[:-1] + (120, 119), r + (120,)))
        self.assert_wrong("form", (s, r + (120,)))
        self.assert_wrong("form", (s + (120,), r))
        self.assert_wrong("form", ((None,) * 121, (None,) * 121))


class Form(FloorTest):
    def test_values_that_are_no_pairs_of_tuples(self):
        for value in NO_PAIRS:
            self.assert_wrong("form", value)

    def test_matrices_and_the_like(self):
        for value in NO_MATRICES:
            self.assertIs(is_floor(value), False)
        # Of the matrices T, F and the identity, only the rows of the identity are permutations.
        self.assert_wrong("s", T)
        self.assert_wrong("r", F)
        self.assert_floor(IDENTITY)

    def test_form_ahead_of_all_others(self):
        for value in [((1, 1), (0,)), ((5,), (5, 5)), ((0, 1), (0, 1), (0, 1)), ((None,) * 121, (0,) * 121), ((2, 1, 0), (1, 1)),
                      ([5], (0,)), ((5,), [0])]:
            self.assert_wrong("form", value)


class Rows(FloorTest):
    def test_wrong_places_in_s(self):
        for wrong in WRONG_PLACES:
            for at in range(3):
                s = [2, 1, 0]
                s[at] = wrong
                self.assert_wrong("s", (tuple(s), (1, 2, 0)))
                self.assert_wrong("s", (tuple(s), (1, 1, 1)))

    def test_wrong_places_in_r(self):
        for wrong in WRONG_PLACES:
            for at in range(3):
                r = [1, 2, 0]
                r[at] = wrong
                self.assert_wrong("r", ((2, 1, 0), tuple(r)))
                self.assert_wrong("r", ((0, 1, 2), tuple(r)))

    def test_places_twice(self):
        for row in product(range(3), repeat=3):
            if len(set(row)) < 3:
                self.assert_wrong("s", (row, (1, 2, 0)))
                self.assert_wrong("s", (row, row))
                self.assert_wrong("r", ((2, 1, 0), row))
                self.assert_wrong("r", ((0, 1, 2), row))

    def test_bools(self):
        self.assert_wrong("s", ((False,), (0,)))
        self.assert_wrong("r", ((0,), (False,)))
        self.assert_wrong("s", ((True, False), (0, 1)))
        self.assert_wrong("r", ((1, 0), (False, True)))
        self.assert_wrong("s", ((2, True, 0), (1, 2, 0)))

    def test_not_restored(self):
        for s in [(1, 2, 0), (2, 0, 1)]:
            self.assert_wrong("s", (s, (1, 2, 0)))
        for r in [(1, 0, 2), (2, 1, 0), (0, 2, 1)]:
            self.assert_wrong("r", ((2, 1, 0), r))
        # A cycle of two and one of three, and cycles of four, five and six.
        for r in [(1, 0, 3, 4, 2, 5), (1, 2, 3, 0, 4, 5), (1, 2, 3, 4, 0, 5), (1, 2, 3, 4, 5, 0)]:
            self.assert_wrong("r", ((5, 4, 3, 2, 1, 0), r))
            self.assert_wrong("s", (r, (1, 2, 0, 4, 5, 3)))

    def test_s_ahead_of_r_ahead_of_connected(self):
        self.assert_wrong("s", ((1, 2, 0), (1, 0, 2)))
        self.assert_wrong("s", ((0, 0), (1, 1)))
        self.assert_wrong("s", ((0, 0), (0, 1)))
        self.assert_wrong("r", ((0, 1), (1, 0)))
        self.assert_wrong("r", ((0, 1), (1, 1)))
        self.assert_wrong("r", ((0, 1, 2), (1, 0, 2)))


class Connected(FloorTest):
    def test_two_parts(self):
        for value in [((0, 1), (0, 1)), ((1, 0, 2), (0, 1, 2)), ((0, 1, 2, 3), (1, 2, 0, 3)), ((2, 1, 0, 3), (1, 2, 0, 3)),
                      ((2, 1, 0, 5, 4, 3), (1, 2, 0, 4, 5, 3)), ((3, 2, 1, 0), (0, 1, 2, 3))]:
            self.assert_wrong("connected", value)

    def test_many_places(self):
        s, r = long_floor(120)
        self.assert_wrong("connected", (s[:59] + (59, 60) + s[61:], r))
        self.assert_wrong("connected", (tuple(range(120)), r))
        self.assert_wrong("connected", (tuple(range(120)), tuple(range(120))))
        self.assert_wrong("connected", (s[:119] + (119,), r[:117] + (117, 118, 119)))

    def test_by_name(self):
        self.assertIsNone(check_floor(floor=EVEN))
        self.assertIs(is_floor(value=EVEN), True)
        self.assertIs(is_floor(value=((0, 1), (0, 1))), False)
        with self.assertRaises(BadFloor):
            check_floor(floor=((0, 1), (0, 1)))


if __name__ == "__main__":
    unittest.main()
