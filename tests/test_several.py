"""Promise [22]: intersections, floors that are generated, and members that are missing."""

import unittest
from itertools import permutations, product

from cuspfloor.errors import BadFloor, TooMany
from cuspfloor.floors import is_member, numbered
from cuspfloor.makers import makers
from cuspfloor.several import generated, intersection, missing
from some_floors import (CHAIN, EVEN, FEW, FLOORS, ODD, ONE, SCATTERED, WITH_120, WITH_121, WRONG_FLOORS, all_small_floors,
                         as_numbered, follow, full_floor, in_common, made_one, reachable, renamed, shuffled, zero_floor)
from support import R, S, STRANGE, T, of_letters, words_up_to
from test_floors import NO_PAIRS

SMALL = [floor for places in (1, 2, 3, 4) for floor in all_small_floors(places) if as_numbered(floor, 0) == floor]
WORDS = words_up_to(9)


def members(floor):
    """The words of up to 9 letters whose matrices are members."""
    return [word for word in WORDS if follow(floor, 0, word) == 0]


def joined_places(first, others):
    """The places of the first floor to which members of the other ones lead 0."""
    found = []
    for other in others:
        pairs = reachable_pairs(first, other)
        found.extend(x for x, y in pairs if y == 0)
    return found


def reachable_pairs(first, second):
    """The pairs of places that can be reached together from the places 0."""
    found = {(0, 0)}
    row = [(0, 0)]
    for x, y in row:
        for part in (0, 1):
            reached = (first[part][x], second[part][y])
            if reached not in found:
                found.add(reached)
                row.append(reached)
    return found


def with_other_numbers(floor, seed):
    """The floor with the same group under other numbers, or with another place called 0."""
    return renamed(floor, [0] + [x + 1 for x in shuffled(len(floor[0]) - 1, seed)])


class Intersection(unittest.TestCase):
    def test_example(self):
        first, second = ((2, 1, 0), (1, 2, 0)), ((0, 2, 1), (1, 2, 0))
        self.assertEqual(len(intersection(first, second)[0]), 6)

    def test_values(self):
        self.assertEqual(intersection(ONE), ONE)
        self.assertEqual(intersection(EVEN), ((2, 1, 0), (1, 2, 0)))
        self.assertEqual(intersection(EVEN, ONE), EVEN)
        self.assertEqual(intersection(((1, 0), (0, 1)), ((0, 1, 2), (1, 2, 0))), ((3, 4, 5, 0, 1, 2), (1, 2, 0, 4, 5, 3)))

    def test_one_floor_is_numbered(self):
        for floor in FLOORS:
            self.assertEqual(intersection(floor), as_numbered(floor, 0))
            self.assertEqual(intersection(with_other_numbers(floor, 3)), as_numbered(floor, 0))

    def test_two_and_three_as_tuples_of_places(self):
        for floors in list(product(SMALL, SMALL)) + list(product(SMALL[1:4], SMALL, SMALL[3:6])):
            self.assertEqual(intersection(*floors), as_numbered(in_common(floors), 0), floors)

    def test_members_are_the_common_members(self):
        rows = {floor: members(floor) for floor in SMALL + [ODD, zero_floor(5)]}
        for one, other in product(rows, rows):
            found = intersection(one, other)
            self.assertEqual(members(found), [word for word in rows[one] if word in rows[other]])

    def test_standard_floors(self):
        for one, other in zip(FEW, FEW[::-1]):
            found = intersection(one, other)
            self.assertEqual(as_numbered(found, 0), found)
            self.assertEqual([type(found), type(found[0]), type(found[1]), type(found[0][0])], [tuple, tuple, tuple, int])

    def test_with_itself(self):
        for floor in FLOORS:
            self.assertEqual(intersection(floor, floor), as_numbered(floor, 0))
            self.assertEqual(intersection(floor, with_other_numbers(floor, 5), floor), as_numbered(floor, 0))
            self.assertEqual(intersection(*[floor] * 30), as_numbered(floor, 0))

    def test_order_and_brackets(self):
        for floors in [(EVEN, zero_floor(3), zero_floor(5)), (ODD, EVEN, ONE), (full_floor(2), ODD, EVEN),
                       (EVEN, WITH_120[0], ONE)]:
            expected = intersection(*floors)
            for one, two, three in permutations(floors):
                self.assertEqual(intersection(one, two, three), expected)
                self.assertEqual(intersection(intersection(one, two), three), expected)
                self.assertEqual(intersection(one, intersection(two, three)), expected)

    def test_groups_that_entries_tell(self):
        for one, other, both in [(2, 3, 6), (4, 6, 12), (3, 9, 9), (2, 11, 22), (5, 7, 35), (1, 8, 8)]:
            self.assertEqual(intersection(zero_floor(one), zero_floor(other)), as_numbered(zero_floor(both), 0))
        self.assertEqual(intersection(full_floor(2), full_floor(3)), as_numbered(full_floor(6), 0))

    def test_other_numbers_and_another_place_0(self):
        for one, other in [(EVEN, zero_floor(5)), (ODD, EVEN), (zero_floor(3), full_floor(2)), (WITH_120[0], EVEN)]:
            self.assertEqual(intersection(with_other_numbers(one, 1), with_other_numbers(other, 2)), intersection(one, other))
            for names in (shuffled(len(one[0]), 7), [x - 1 for x in range(len(one[0]))]):
                moved = renamed(one, [x % len(names) for x in names])
                self.assertEqual(intersection(moved, other), as_numbered(in_common([moved, other]), 0))
                self.assertEqual(intersection(other, moved), as_numbered(in_common([moved, other]), 0))

    def test_exactly_120_places(self):
        for floors in [WITH_120, WITH_120[::-1], (zero_floor(5), zero_floor(19)),
                       (zero_floor(3), EVEN, zero_floor(4), zero_floor(9)),
                       (SCATTERED[10], SCATTERED[10], ONE)]:
            found = intersection(*floors)
            self.assertEqual(found, as_numbered(in_common(floors), 0))
        self.assertEqual(len(intersection(*WITH_120)[0]), 120)
        self.assertEqual(len(intersection(zero_floor(5), zero_floor(19))[0]), 120)

    def test_more_than_120_places(self):
        for floors in [WITH_121, WITH_121[::-1], (ONE,) + WITH_121, (zero_floor(5), zero_floor(23)), (CHAIN, EVEN),
                       (EVEN, SCATTERED[-1]),
                       (zero_floor(113), zero_floor(11)), (zero_floor(11), zero_floor(5), zero_floor(7)), tuple(FLOORS)]:
            with self.assertRaises(TooMany) as caught:
                intersection(*floors)
            self.assertEqual(caught.exception.limit, 120)


class Generated(unittest.TestCase):
    def test_example(self):
        self.assertEqual(generated(((2, 1, 0), (1, 2, 0)), ((0, 2, 1), (1, 2, 0))), ((0,), (0,)))

    def test_values(self):
        self.assertEqual(generated(ONE), ONE)
        self.assertEqual(generated(EVEN), EVEN)
        self.assertEqual(generated(EVEN, ONE), ONE)
        self.assertEqual(generated(((3, 4, 5, 0, 1, 2), (1, 2, 0, 4, 5, 3)), ((1, 0), (0, 1))), ((1, 0), (0, 1)))
        self.assertEqual(generated(((3, 4, 5, 0, 1, 2), (1, 2, 0, 4, 5, 3)), ((0, 1, 2), (1, 2, 0))), ((0, 1, 2), (1, 2, 0)))

    def test_one_floor_is_numbered(self):
        for floor in FLOORS:
            self.assertEqual(generated(floor), as_numbered(floor, 0))
            self.assertEqual(generated(with_other_numbers(floor, 3)), as_numbered(floor, 0))

    def test_places_that_become_one(self):
        rows = SMALL + [zero_floor(6), zero_floor(8), full_floor(3), full_floor(2), zero_floor(9), ODD]
        for first, second in product(rows, rows):
            expected = as_numbered(made_one(first, joined_places(first, [second])), 0)
            self.assertEqual(generated(first, second), expected, (first, second))
        for floors in permutations([zero_floor(12), full_floor(2), zero_floor(8), full_floor(4)], 3):
            expected = as_numbered(made_one(floors[0], joined_places(floors[0], floors[1:])), 0)
            self.assertEqual(generated(*floors), expected, floors)

    def test_smallest_group_that_contains_all_members(self):
        for one, other in product(SMALL, SMALL):
            found = generated(one, other)
            around = [floor for floor in SMALL if missing(floor, one) is None and missing(floor, other) is None]
            self.assertIn(found, around)
            self.assertEqual(max(len(floor[0]) for floor in around), len(found[0]))
            self.assertEqual([floor for floor in around if len(floor[0]) == len(found[0])], [found])

    def test_with_itself(self):
        for floor in FLOORS:
            self.assertEqual(generated(floor, floor), as_numbered(floor, 0))
            self.assertEqual(generated(floor, with_other_numbers(floor, 4)), as_numbered(floor, 0))
        self.assertEqual(generated(*[ODD] * 30), ODD)

    def test_each_absorbs_the_other_one(self):
        rows = SMALL + [ODD, zero_floor(5), zero_floor(6), full_floor(2)]
        for one, other in product(rows, rows):
            self.assertEqual(generated(one, intersection(one, other)), as_numbered(one, 0))
            self.assertEqual(intersection(one, generated(one, other)), as_numbered(one, 0))
            self.assertEqual(generated(intersection(one, other), one), as_numbered(one, 0))
            self.assertEqual(intersection(generated(one, other), one), as_numbered(one, 0))

    def test_order_and_brackets(self):
        for floors in [(zero_floor(12), zero_floor(8), full_floor(4)), (full_floor(6), zero_floor(22), zero_floor(4)),
                       (full_floor(4), zero_floor(8), zero_floor(16)), (ODD, ONE, EVEN), tuple(SCATTERED[:3])]:
            expected = generated(*floors)
            for one, two, three in permutations(floors):
                self.assertEqual(generated(one, two, three), expected)
                self.assertEqual(generated(generated(one, two), three), expected)
                self.assertEqual(generated(one, generated(two, three)), expected)

    def test_groups_that_entries_tell(self):
        for one, other, both in [(4, 6, 2), (8, 12, 4), (9, 6, 3), (22, 4, 2), (5, 7, 1), (12, 12, 12)]:
            self.assertEqual(generated(zero_floor(one), zero_floor(other)), as_numbered(zero_floor(both), 0))
        self.assertEqual(generated(full_floor(4), full_floor(6)), as_numbered(full_floor(2), 0))
        self.assertEqual(generated(full_floor(5), full_floor(6)), ONE)

    def test_other_numbers_and_another_place_0(self):
        for one, other in [(zero_floor(12), zero_floor(8)), (full_floor(4), zero_floor(6)), (full_floor(3), zero_floor(9))]:
            self.assertEqual(generated(with_other_numbers(one, 1), with_other_numbers(other, 2)), generated(one, other))
            for seed in range(6):
                moved = renamed(one, shuffled(len(one[0]), seed))
                self.assertEqual(generated(moved, other), as_numbered(made_one(moved, joined_places(moved, [other])), 0))
                self.assertEqual(generated(other, moved), generated(moved, other))

    def test_120_places(self):
        self.assertEqual(generated(CHAIN, CHAIN), as_numbered(CHAIN, 0))
        both = in_common(WITH_120)
        self.assertEqual(generated(both, WITH_120[0]), as_numbered(WITH_120[0], 0))
        self.assertEqual(generated(WITH_120[1], both), as_numbered(WITH_120[1], 0))
        self.assertEqual(generated(CHAIN, SCATTERED[-1], zero_floor(113)), ONE)

    def test_never_too_many(self):
        for floors in (WITH_121, (zero_floor(5), zero_floor(23)), tuple(FLOORS)):
            found = generated(*floors)
            self.assertEqual(sorted(reachable(*found)), list(range(len(found[0]))))


class Missing(unittest.TestCase):
    def test_example(self):
        self.assertEqual(missing(((2, 1, 0), (1, 2, 0)), ((0,), (0,))), ((0, -1), (1, 1)))

    def test_values(self):
        self.assertEqual(missing(EVEN, ONE), R)
        self.assertIsNone(missing(ONE, EVEN))
        self.assertEqual(missing(EVEN, ((0, 2, 1), (1, 2, 0))), S)
        self.assertEqual(missing(((0, 2, 1), (1, 2, 0)), EVEN), T)
        self.assertEqual(missing(((1, 0), (0, 1)), ONE), S)
        self.assertEqual(missing(((0, 1, 2), (1, 2, 0)), ONE), R)

    def test_first_maker_that_is_no_member(self):
        rows = FEW + SMALL + [zero_floor(22), full_floor(2), SCATTERED[9], CHAIN]
        for first, second in product(rows, rows):
            wrong = [matrix for _, matrix in makers(second) if not is_member(first, matrix)]
            self.assertEqual(missing(first, second), wrong[0] if wrong else None)

    def test_none_exactly_if_all_members_are_members(self):
        rows = {floor: members(floor) for floor in SMALL}
        for first, second in product(SMALL, SMALL):
            self.assertIs(missing(first, second) is None, set(rows[second]) <= set(rows[first]), (first, second))
        for one, other in product(range(1, 13), range(1, 13)):
            self.assertIs(missing(zero_floor(one), zero_floor(other)) is None, other % one == 0)

    def test_not_the_first_maker(self):
        self.assertEqual([order for order, _ in makers(EVEN)], [0, 2])
        wrong = missing(((0, 1, 2), (1, 2, 0)), numbered(EVEN, base=1))
        self.assertEqual(wrong, [matrix for _, matrix in makers(numbered(EVEN, base=1))][1])

    def test_other_numbers(self):
        for seed in range(4):
            one, other = with_other_numbers(zero_floor(12), seed), with_other_numbers(zero_floor(4), seed)
            self.assertIsNone(missing(other, one))
            self.assertEqual(missing(one, other), missing(zero_floor(12), zero_floor(4)))

    def test_wrong_floors(self):
        for value, part in WRONG_FLOORS:
            for call, expected in [((value, EVEN), part), ((EVEN, value), part), ((value, None), part), ((ONE, value), part)]:
                with self.assertRaises(BadFloor) as caught:
                    missing(*call)
                self.assertEqual(caught.exception.part, expected)
            with self.assertRaises(BadFloor) as caught:
                missing(second=((0, 1), (0, 1)), first=value)
            self.assertEqual(caught.exception.part, part)
        for value in STRANGE:
            for call in ((value, EVEN), (EVEN, value)):
                with self.assertRaises(BadFloor) as caught:
                    missing(*call)
                self.assertEqual(caught.exception.part, "form")


class WrongFloors(unittest.TestCase):
    def test_at_each_place(self):
        for value, part in WRONG_FLOORS + [(value, "form") for value in NO_PAIRS]:
            for call in [(value,), (value, EVEN), (EVEN, value), (EVEN, EVEN, value), (EVEN, value, ONE)]:
                for function in (intersection, generated):
                    with self.assertRaises(BadFloor) as caught:
                        function(*call)
                    self.assertEqual(caught.exception.part, part)

    def test_first_wrong_argument(self):
        for (one, part), (other, _) in product(WRONG_FLOORS, WRONG_FLOORS):
            for function in (intersection, generated):
                with self.assertRaises(BadFloor) as caught:
                    function(EVEN, one, other)
                self.assertEqual(caught.exception.part, part)

    def test_ahead_of_too_many(self):
        for value, part in WRONG_FLOORS:
            for floors in (WITH_121, (CHAIN, EVEN), (zero_floor(113), zero_floor(11), EVEN)):
                for function in (intersection, generated):
                    with self.assertRaises(BadFloor) as caught:
                        function(*floors, value)
                    self.assertEqual(caught.exception.part, part)


class GeneralRules(unittest.TestCase):
    def test_members_by_their_matrices(self):
        found = intersection(EVEN, zero_floor(3))
        for word in WORDS[:300]:
            matrix = of_letters(word)
            self.assertIs(is_member(found, matrix), matrix[1][0] % 6 == 0)

    def test_equal_calls_have_equal_results(self):
        for function in (intersection, generated, missing):
            self.assertEqual(function(EVEN, zero_floor(6)), function(((2, 1, 0), (1, 2, 0)), zero_floor(6)))


if __name__ == "__main__":
    unittest.main()
