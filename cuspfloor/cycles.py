"""The cycles of a floor: which fractions its members take to each other."""

from math import gcd

from cuspfloor.floors import check_floor, cycles_of_permutation, led_by_powers, power_tables
from cuspfloor.matrices import check_number, inverse, product
from cuspfloor.ratios import check_fraction, matrix_of_fraction
from cuspfloor.words import expansion

MOST_DENOMINATOR = 1000


def cycles(floor):
    """Return the tuple of the cycles, in ascending order."""
    check_floor(floor)
    return _cycles(floor)


def widths(floor):
    """Return the tuple of the lengths of the cycles."""
    return tuple([len(cycle) for cycle in cycles(floor)])


def cycle_of(floor, fraction):
    """Return the index of the cycle of a fraction."""
    check_floor(floor)
    check_fraction(fraction)
    return _indexes(floor)[_place_of(power_tables(floor), fraction)]


def width_of(floor, fraction):
    """Return the length of the cycle of a fraction."""
    index = cycle_of(floor, fraction)
    return len(_cycles(floor)[index])


def taking(floor, first, second):
    """Return a member that takes the first fraction to the second one, by the least power of T, or None."""
    check_floor(floor)
    check_fraction(first)
    check_fraction(second)
    tables = power_tables(floor)
    goal = _place_of(tables, first)
    cycle, at = tables["T"][_place_of(tables, second)]
    if goal not in cycle:
        return None
    shift = (cycle.index(goal) - at) % len(cycle)
    return product(matrix_of_fraction(second), ((1, shift), (0, 1)), inverse(matrix_of_fraction(first)))


def fixed(floor):
    """Return the pair of the tuples of the places x with s[x] = x and of those with r[x] = x."""
    check_floor(floor)
    s, r = floor
    return (tuple([x for x in range(len(s)) if s[x] == x]), tuple([x for x in range(len(r)) if r[x] == x]))


def genus(floor):
    """Return the genus."""
    by_s, by_r = fixed(floor)
    # The division leaves no rest: the genus is an integer.
    return (12 + len(floor[0]) - 3 * len(by_s) - 4 * len(by_r) - 6 * len(_cycles(floor))) // 12


def fractions_in(floor, index, *, most):
    """Yield (1, 0) and the fractions from 0 to 1 with small second numbers, as far as their cycle has this index."""
    check_floor(floor)
    check_number(index, 0, len(_cycles(floor)) - 1)
    check_number(most, 0, MOST_DENOMINATOR)
    tables = power_tables(floor)
    indexes = _indexes(floor)
    if indexes[_place_of(tables, (1, 0))] == index:
        yield (1, 0)
    for q in range(1, most + 1):
        for p in range(q):
            if gcd(p, q) == 1 and indexes[_place_of(tables, (p, q))] == index:
                yield (p, q)


def _cycles(floor):
    """Return the tuple of the cycles, without a check."""
    s, r = floor
    return tuple(cycles_of_permutation([r[x] for x in s]))


def _indexes(floor):
    """Return a dict with the index of its cycle for each place."""
    return {x: index for index, cycle in enumerate(_cycles(floor)) for x in cycle}


def _place_of(tables, fraction):
    """Return the place to which the matrix of a fraction leads place 0."""
    return led_by_powers(tables, 0, expansion(matrix_of_fraction(fraction)))
