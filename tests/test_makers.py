"""Promises [15], [16] and [18]: roads and makers."""

import unittest

from cuspfloor.errors import BadFloor
from cuspfloor.makers import makers, roads
from some_floors import (CHAIN, EVEN, FLOORS, ODD, ONE, SCATTERED, WRONG_FLOORS, all_small_floors, as_listed, follow,
                         full_floor, zero_floor)
from support import IDENTITY, R, S, T, back, multiplied, of_letters, undone

SMALL = [floor for places in (1, 2, 3, 4, 5) for floor in all_small_floors(places)]


def steps(floor):
    """The steps of the walk by the base 0 that entered tiles, each as a pair of places."""
    s, r = floor
    found = []
    entered = {0, r[0], r[r[0]]}
    for y in as_listed(floor, 0):
        if s[y] not in entered:
            found.append((y, s[y]))
            entered |= {s[y], r[s[y]], r[r[s[y]]]}
    return found


def told_roads(floor):
    """The roads, as the document tells them."""
    s, r = floor
    found = {0: ""}
    for y, x in [(None, 0)] + steps(floor):
        if y is not None:
            found[x] = found[y] + "S"
        if r[x] != x:
            found[r[x]] = found[x] + "R"
            found[r[r[x]]] = found[x] + "r"
    return tuple(found[x] for x in range(len(s)))


def told_makers(floor):
    """The makers, as the document tells them."""
    s, r = floor
    listed = as_listed(floor, 0)
    ways = [of_letters(road) for road in told_roads(floor)]
    found = []
    for x in listed:
        y = s[x]
        if r[x] == x:
            found.append((3, multiplied([ways[x], R, undone(ways[x])])))
        if y == x:
            found.append((2, multiplied([ways[x], S, undone(ways[x])])))
        if listed.index(y) > listed.index(x) and (x, y) not in steps(floor):
            found.append((0, multiplied([ways[x], S, undone(ways[y])])))
    return tuple(found)


class Roads(unittest.TestCase):
    def test_example(self):
        self.assertEqual(roads(((2, 1, 0), (1, 2, 0))), ("", "R", "r"))

    def test_values(self):
        self.assertEqual(roads(ONE), ("",))
        self.assertEqual(roads(((1, 0), (0, 1))), ("", "S"))
        self.assertEqual(roads(((1, 0, 2), (2, 0, 1))), ("", "r", "R"))
        self.assertEqual(roads(ODD), ("", "R", "r", "RS", "RSR", "RSr", "RSRS"))
        self.assertEqual(roads(((2, 3, 0, 1), (1, 2, 0, 3))), ("", "R", "r", "RS"))

    def test_as_the_document_tells_them(self):
        for floor in FLOORS + SMALL:
            found = roads(floor)
            self.assertEqual(found, told_roads(floor), floor)
            self.assertIs(type(found), tuple)

    def test_each_leads_0_to_its_place(self):
        for floor in FLOORS + SMALL:
            for x, road in enumerate(roads(floor)):
                self.assertRegex(road, "^S?([Rr]S)*[Rr]?$")
                self.assertEqual(follow(floor, 0, road), x)

    def test_long_roads(self):
        self.assertEqual(max(map(len, roads(CHAIN))), 79)
        self.assertEqual(roads(CHAIN)[119], told_roads(CHAIN)[119])

    def test_errors(self):
        for floor, part in WRONG_FLOORS:
            with self.assertRaises(BadFloor) as caught:
                roads(floor)
            self.assertEqual(caught.exception.part, part)

    def test_by_name(self):
        self.assertEqual(roads(floor=EVEN), ("", "R", "r"))


class Makers(unittest.TestCase):
    def test_example(self):
        self.assertEqual(makers(((2, 1, 0), (1, 2, 0))), ((0, ((1, 1), (0, 1))), (2, ((-1, -1), (2, 1)))))

    def test_values(self):
        # At one place the maker with R comes before the one with S.
        self.assertEqual(makers(ONE), ((3, R), (2, S)))
        self.assertEqual(makers(((1, 0), (0, 1))), ((3, R), (3, multiplied([S, R, S]))))
        self.assertEqual(makers(((0, 1, 2), (1, 2, 0))),
                         ((2, S), (2, of_letters("RSr")), (2, of_letters("rSR"))))
        self.assertEqual(makers(((1, 0, 2), (1, 2, 0))), ((0, of_letters("Sr")), (2, of_letters("rSR"))))
        self.assertEqual(makers(((3, 1, 2, 0), (1, 2, 0, 3))),
                         ((2, of_letters("RSr")), (2, of_letters("rSR")), (3, multiplied([S, R, S]))))
        self.assertEqual(makers(((2, 3, 0, 1), (1, 2, 0, 3))),
                         ((0, of_letters("SR")), (3, multiplied([of_letters("RS"), R, of_letters("Sr")]))))
        self.assertEqual(makers(full_floor(2)), told_makers(full_floor(2)))
        self.assertEqual([order for order, _ in makers(full_floor(2))], [0, 0])

    def test_as_the_document_tells_them(self):
        for floor in FLOORS + SMALL:
            found = makers(floor)
            self.assertEqual(found, told_makers(floor), floor)
            self.assertIs(type(found), tuple)
            for pair in found:
                self.assertEqual([type(pair), type(pair[0])], [tuple, int])

    def test_all_are_members(self):
        for floor in FLOORS + SMALL:
            ways = roads(floor)
            listed = as_listed(floor, 0)
            found = makers(floor)
            at = 0
            # The word of each maker, road, letter and road back, leads place 0 to itself.
            for x in listed:
                y = floor[0][x]
                letters = ["R"] * (floor[1][x] == x)
                if y == x or (listed.index(y) > listed.index(x) and (x, y) not in steps(floor)):
                    letters.append("S")
                for letter in letters:
                    way = ways[x] + letter + back(ways[y] if letter == "S" else ways[x])
                    self.assertEqual(follow(floor, 0, way), 0)
                    self.assertEqual(of_letters(way), found[at][1])
                    at += 1
            self.assertEqual(at, len(found))

    def test_members_of_groups_that_entries_tell(self):
        for modulus in (2, 3, 5, 11, 37, 113):
            for _, ((a, b), (c, d)) in makers(zero_floor(modulus)):
                self.assertEqual(c % modulus, 0)

    def test_orders(self):
        for floor in FLOORS + SMALL:
            for order, matrix in makers(floor):
                powers = [multiplied([matrix] * k) for k in (1, 2, 3)]
                self.assertEqual(powers.index(IDENTITY) + 1 if IDENTITY in powers else 0, order)

    def test_number_of_makers(self):
        for floor in FLOORS + SMALL:
            s, r = floor
            n, e, f = len(s), sum(s[x] == x for x in range(len(s))), sum(r[x] == x for x in range(len(r)))
            orders = [order for order, _ in makers(floor)]
            self.assertEqual((orders.count(2), orders.count(3)), (e, f))
            self.assertEqual(6 * orders.count(0), n - 3 * e - 4 * f + 6)
            self.assertEqual(len(orders), orders.count(0) + e + f)

    def test_120_places(self):
        self.assertEqual(len(makers(SCATTERED[-2])), 21)
        self.assertEqual(len(makers(CHAIN)), len(told_makers(CHAIN)))

    def test_errors(self):
        for floor, part in WRONG_FLOORS:
            with self.assertRaises(BadFloor) as caught:
                makers(floor)
            self.assertEqual(caught.exception.part, part)

    def test_by_name(self):
        self.assertEqual(makers(floor=EVEN), ((0, T), (2, ((-1, -1), (2, 1)))))


if __name__ == "__main__":
    unittest.main()
