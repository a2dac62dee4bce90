"""Moduli: whether the entries of a matrix modulo some number tell if it is a member of a floor."""

from math import lcm

from cuspfloor.cycles import widths
from cuspfloor.errors import TooMany
from cuspfloor.floors import check_floor, is_member
from cuspfloor.matrices import IDENTITY, R, S, check_matrix, check_number, inverse, is_matrix, is_whole, product

MAX_MODULUS = 16


def are_alike(one, other, modulus):
    """Tell if two matrices are the same modulo a number, up to their signs."""
    check_matrix(one)
    check_matrix(other)
    check_number(modulus, 1, None)
    return _rest(one, modulus) == _rest(other, modulus)


def level(floor):
    """Return the level: the least common multiple of the widths of the cycles."""
    result = 1
    for width in widths(floor):
        result = lcm(result, width)
    return result


def outsider(floor, modulus):
    """Return None if the floor depends on the modulus, otherwise a matrix alike to the identity that is no member."""
    check_floor(floor)
    check_number(modulus, 1, MAX_MODULUS)
    s, r = floor
    # Of each rest that was reached: a matrix with this rest, and the place to which it leads place 0.
    found = {_rest(IDENTITY, modulus): (IDENTITY, 0)}
    queue = [(IDENTITY, 0)]
    done = 0
    while done < len(queue):
        matrix, place = queue[done]
        for way, reached in ((product(matrix, S), s[place]), (product(matrix, R), r[place])):
            rest = _rest(way, modulus)
            if rest not in found:
                found[rest] = (way, reached)
                queue.append((way, reached))
            other, other_reached = found[rest]
            if other_reached != reached:
                return product(way, inverse(other))
        done = done + 1
    return None


def dependence(floor):
    """Return ("level", N) if the floor depends on its level N, otherwise ("outsider", matrix) with one for N."""
    modulus = _small_level(floor)
    matrix = outsider(floor, modulus)
    if matrix is None:
        return ("level", modulus)
    return ("outsider", matrix)


def is_dependence(floor, value):
    """Tell if a value is a tuple that dependence may return."""
    modulus = _small_level(floor)
    if not isinstance(value, tuple) or len(value) != 2 or not isinstance(value[0], str):
        return False
    name, witness = value
    if name == "level":
        return is_whole(witness) and witness == modulus and outsider(floor, modulus) is None
    if name == "outsider":
        return is_matrix(witness) and are_alike(witness, IDENTITY, modulus) and not is_member(floor, witness)
    return False


def _rest(matrix, modulus):
    """Return the entries modulo a number: those of the matrix or of its negative, the same for alike matrices."""
    (a, b), (c, d) = matrix
    straight = (a % modulus, b % modulus, c % modulus, d % modulus)
    opposite = (-a % modulus, -b % modulus, -c % modulus, -d % modulus)
    return min(straight, opposite)


def _small_level(floor):
    """Return the level of a floor; raise TooMany for one that is greater than the moduli of outsiders."""
    modulus = level(floor)
    if modulus > MAX_MODULUS:
        raise TooMany(MAX_MODULUS)
    return modulus
