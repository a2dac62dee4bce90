"""Promises [13], [14] and [23]: walks, numberings, equal and conjugate groups, and relatives."""

import unittest

from cuspfloor.errors import BadFloor, BadPlace
from cuspfloor.floors import conjugate_base, is_member, numbered, relatives, same_group, walk
from some_floors import (CHAIN, EVEN, FLOORS, ODD, ONE, SCATTERED, WRONG_FLOORS, all_small_floors, as_listed,
                         as_numbered, follow, full_floor, renamed, shuffled, zero_floor)
from support import HUGE, STRANGE, back, of_letters, words_up_to

SMALL = [floor for places in (1, 2, 3, 4, 5) for floor in all_small_floors(places)]


class Walk(unittest.TestCase):
    def test_example(self):
        floor = ((2, 1, 0), (1, 2, 0))
        self.assertEqual((walk(floor, base=1), numbered(floor, base=1)), ((1, 2, 0), ((0, 2, 1), (1, 2, 0))))

    def test_values(self):
        for floor, base, expected in [
                (ONE, 0, (0,)), (EVEN, 0, (0, 1, 2)), (EVEN, 2, (2, 0, 1)), (((1, 0), (0, 1)), 0, (0, 1)),
                (((1, 0), (0, 1)), 1, (1, 0)), (ODD, 0, (0, 1, 2, 3, 4, 5, 6)), (ODD, 6, (6, 4, 5, 3, 1, 2, 0)),
                (ODD, 4, (4, 5, 3, 6, 1, 2, 0)), (ODD, 3, (3, 4, 5, 1, 2, 0, 6))]:
            self.assertEqual(walk(floor, base=base), expected, (floor, base))

    def test_tiles_in_the_order_in_which_they_were_entered(self):
        s = (3, 6, 9, 0, 4, 10, 1, 7, 11, 2, 5, 8)
        r = (1, 2, 0, 4, 5, 3, 7, 8, 6, 9, 10, 11)
        self.assertEqual(walk((s, r)), (0, 1, 2, 3, 4, 5, 6, 7, 8, 9, 10, 11))
        self.assertEqual(walk((s, r), base=10), (10, 5, 3, 4, 0, 1, 2, 6, 7, 8, 9, 11))
        self.assertEqual(walk((s, r), base=8), (8, 6, 7, 11, 1, 2, 0, 9, 3, 4, 5, 10))

    def test_each_base_of_each_floor(self):
        for floor in FLOORS + SMALL:
            for base in range(len(floor[0])):
                found = walk(floor, base=base)
                self.assertEqual(found, as_listed(floor, base), (floor, base))
                self.assertIs(type(found), tuple)
                self.assertEqual(sorted(found), list(range(len(floor[0]))))

    def test_default_base(self):
        for floor in FLOORS:
            self.assertEqual(walk(floor), walk(floor, base=0))
            self.assertEqual(numbered(floor), numbered(floor, base=0))


class Numbered(unittest.TestCase):
    def test_each_base_of_each_floor(self):
        for floor in FLOORS + SMALL:
            for base in range(len(floor[0])):
                self.assertEqual(numbered(floor, base=base), as_numbered(floor, base), (floor, base))

    def test_numbering_again_changes_nothing(self):
        for floor in FLOORS + SMALL:
            for base in range(0, len(floor[0]), 1 + len(floor[0]) // 12):
                found = numbered(floor, base=base)
                self.assertEqual(numbered(found), found)
                self.assertEqual(walk(found), tuple(range(len(found[0]))))

    def test_other_numbers_but_the_same_base(self):
        for floor in FLOORS:
            for seed in range(2):
                names = shuffled(len(floor[0]), seed)
                other = renamed(floor, names)
                for x in (0, len(names) - 1):
                    self.assertEqual(numbered(other, base=names[x]), numbered(floor, base=x))

    def test_group_of_a_numbered_floor(self):
        # If W leads 0 to b, a matrix M is in the group of the floor numbered by b exactly if W M and W inverted is a member.
        for floor in (EVEN, ODD, zero_floor(5), SCATTERED[0], SCATTERED[4]):
            for way in words_up_to(4):
                found = numbered(floor, base=follow(floor, 0, way))
                for word in words_up_to(5):
                    self.assertIs(is_member(found, of_letters(word)), is_member(floor, of_letters(way + word + back(way))))


class SameGroup(unittest.TestCase):
    def test_other_numbers_but_the_same_place_0(self):
        for floor in FLOORS:
            for seed in range(3):
                names = [0] + [x + 1 for x in shuffled(len(floor[0]) - 1, seed)]
                self.assertIs(same_group(floor, renamed(floor, names)), True)
                self.assertIs(same_group(renamed(floor, names), floor), True)

    def test_exactly_if_the_members_are_the_same(self):
        # Words of up to 9 letters lead from place 0 to all places and along all makers of so small floors.
        words = words_up_to(9)
        floors = [floor for places in (1, 2, 3) for floor in all_small_floors(places)] + all_small_floors(4)[::3]
        members = [[follow(floor, 0, word) == 0 for word in words] for floor in floors]
        for one, row in zip(floors, members):
            for other, other_row in zip(floors, members):
                self.assertIs(same_group(one, other), row == other_row, (one, other))

    def test_values(self):
        self.assertIs(same_group(EVEN, ((2, 1, 0), (1, 2, 0))), True)
        self.assertIs(same_group(EVEN, ((1, 0, 2), (2, 0, 1))), True)
        self.assertIs(same_group(EVEN, ((1, 0, 2), (1, 2, 0))), False)
        self.assertIs(same_group(EVEN, ((0, 2, 1), (1, 2, 0))), False)
        self.assertIs(same_group(EVEN, ONE), False)
        self.assertIs(same_group(zero_floor(11), full_floor(3)), False)


class ConjugateBase(unittest.TestCase):
    def test_example(self):
        floor = ((2, 1, 0), (1, 2, 0))
        self.assertEqual((conjugate_base(floor, ((0, 2, 1), (1, 2, 0))), len(relatives(floor))), (1, 3))

    def test_least_base(self):
        for floor in FLOORS[:30] + SCATTERED[:6] + [zero_floor(6), full_floor(2), full_floor(3), full_floor(4)]:
            results = [as_numbered(floor, base) for base in range(len(floor[0]))]
            for base, result in enumerate(results):
                self.assertEqual(conjugate_base(floor, result), results.index(result))
                self.assertEqual(conjugate_base(result, floor), as_first(result, as_numbered(floor, 0)))
            names = shuffled(len(floor[0]), 5)
            self.assertEqual(conjugate_base(floor, renamed(floor, names)), results.index(as_numbered(renamed(floor, names), 0)))

    def test_the_base_is_0_for_the_same_group(self):
        for floor in FLOORS:
            self.assertEqual(conjugate_base(floor, floor), 0)
            self.assertEqual(conjugate_base(floor, numbered(floor)), 0)

    def test_a_normal_floor(self):
        for modulus in (2, 3, 4, 5):
            floor = full_floor(modulus)
            self.assertEqual(conjugate_base(floor, numbered(floor, base=len(floor[0]) - 1)), 0)

    def test_none(self):
        for one, other in [(EVEN, ONE), (ONE, EVEN), (EVEN, zero_floor(5)), (EVEN, ((0, 1, 2), (1, 2, 0))), (ODD, zero_floor(6)),
                           (zero_floor(11), full_floor(3)), (full_floor(3), zero_floor(11)), (CHAIN, SCATTERED[-2])]:
            self.assertIsNone(conjugate_base(one, other))

    def test_all_pairs_of_small_floors(self):
        some = SMALL[:40]
        for one in some:
            for other in some:
                self.assertEqual(conjugate_base(one, other), as_first(one, as_numbered(other, 0)))


def as_first(floor, goal):
    """The least base whose numbering gives this floor."""
    return next((base for base in range(len(floor[0])) if as_numbered(floor, base) == goal), None)


class Relatives(unittest.TestCase):
    def test_values(self):
        self.assertEqual(relatives(ONE), (ONE,))
        self.assertEqual(relatives(EVEN), (((0, 2, 1), (1, 2, 0)), ((1, 0, 2), (1, 2, 0)), ((2, 1, 0), (1, 2, 0))))
        self.assertEqual(relatives(((1, 0), (0, 1))), (((1, 0), (0, 1)),))
        self.assertEqual(relatives(((0, 1, 2), (1, 2, 0))), (((0, 1, 2), (1, 2, 0)),))
        for modulus in (2, 3, 4, 5):
            self.assertEqual(relatives(full_floor(modulus)), (numbered(full_floor(modulus)),))

    def test_ascending_and_without_duplicates(self):
        for floor in FLOORS:
            if len(floor[0]) < 60:
                found = relatives(floor)
                self.assertIs(type(found), tuple)
                self.assertTrue(all(one < other for one, other in zip(found, found[1:])))
                self.assertEqual(set(found), {as_numbered(floor, base) for base in range(len(floor[0]))})

    def test_120_places(self):
        for floor in (SCATTERED[-2], CHAIN):
            found = relatives(floor)
            self.assertEqual(found, tuple(sorted({as_numbered(floor, base) for base in range(120)})))

    def test_same_relatives_for_each_numbering(self):
        for floor in FLOORS[:20] + SCATTERED[:4]:
            for base in range(len(floor[0])):
                self.assertEqual(relatives(numbered(floor, base=base)), relatives(floor))


class Errors(unittest.TestCase):
    def test_wrong_bases(self):
        for function in (walk, numbered):
            for floor in (ONE, EVEN, CHAIN):
                for base in STRANGE + [-1, len(floor[0]), HUGE, -HUGE, "0", (0,), 1.0]:
                    with self.assertRaises(BadPlace) as caught:
                        function(floor, base=base)
                    self.assertIs(caught.exception.value, base)

    def test_wrong_floors(self):
        for floor, part in WRONG_FLOORS:
            calls = [(walk, (floor,)), (numbered, (floor,)), (relatives, (floor,))]
            for function in (same_group, conjugate_base):
                calls.extend([(function, (floor, EVEN)), (function, (EVEN, floor)), (function, (floor, None))])
                if part != "s":
                    calls.append((function, (floor, ((1, 1), (0, 1)))))
            for function, given in calls:
                with self.assertRaises(BadFloor) as caught:
                    function(*given)
                self.assertEqual(caught.exception.part, part)

    def test_floor_ahead_of_base(self):
        for function in (walk, numbered):
            for base in (0, -1, None, 3):
                with self.assertRaises(BadFloor):
                    function(((0, 1), (0, 1)), base=base)

    def test_base_only_by_name(self):
        for function in (walk, numbered):
            with self.assertRaises(TypeError):
                function(EVEN, 1)

    def test_by_name(self):
        self.assertEqual(walk(base=1, floor=EVEN), (1, 2, 0))
        self.assertEqual(numbered(base=1, floor=EVEN), ((0, 2, 1), (1, 2, 0)))
        self.assertIs(same_group(second=EVEN, first=EVEN), True)
        self.assertEqual(conjugate_base(second=((0, 2, 1), (1, 2, 0)), first=EVEN), 1)
        self.assertEqual(len(relatives(floor=EVEN)), 3)
        with self.assertRaises(BadFloor) as caught:
            conjugate_base(second=None, first=((1, 1), (0, 1)))
        self.assertEqual(caught.exception.part, "s")


if __name__ == "__main__":
    unittest.main()
