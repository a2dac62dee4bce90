"""Rules: objects that decide which matrices are members."""

from cuspfloor.errors import BadRule, TooMany
from cuspfloor.floors import MAX_PLACES, numbered
from cuspfloor.matrices import IDENTITY, R, S, check_matrix, check_number, inverse, product
from cuspfloor.moduli import are_alike

MOST_LEVEL = 1000


class Rule:
    """The rule with all matrices as members, and the base class of all other rules."""

    def contains(self, matrix):
        """Tell if a matrix is a member."""
        check_matrix(matrix)
        return True

    def standard_floor(self):
        """Return the standard floor with the same members."""
        # Of each place, the inverse of a matrix that leads place 0 to it.
        backward = [IDENTITY]
        s = []
        r = []
        # The list grows while it is gone through.
        while len(r) < len(backward):
            way = inverse(backward[len(r)])
            s.append(_place_of(self, backward, product(way, S)))
            r.append(_place_of(self, backward, product(way, R)))
        return numbered((tuple(s), tuple(r)))

    @staticmethod
    def in_all(matrix, *rules):
        """Tell if a matrix is a member of all these rules."""
        check_matrix(matrix)
        for rule in rules:
            check_rule(rule)
        return all([rule.contains(matrix) for rule in rules])


class LevelZero(Rule):
    """The rule whose members are the matrices with c a multiple of the level."""

    def __init__(self, level):
        check_level(level)
        self._level = level

    @property
    def level(self):
        """The level."""
        return self._level

    def contains(self, matrix):
        """Tell if a matrix is a member."""
        check_matrix(matrix)
        return matrix[1][0] % self._level == 0

    @classmethod
    def size(cls, level):
        """Return the index of the rule of this level."""
        check_level(level)
        index = level
        for prime in _primes_of(level):
            index = index // prime * (prime + 1)
        return index

    @classmethod
    def levels_with(cls, matrix, *, most=60):
        """Return the ascending tuple of the levels for which a matrix is a member of the rule of this class."""
        check_matrix(matrix)
        check_number(most, 1, MOST_LEVEL)
        found = []
        for level in range(1, most + 1):
            if cls(level).contains(matrix):
                found.append(level)
        return tuple(found)


class LevelOne(LevelZero):
    """The rule whose members are alike to matrices with a = d = 1 and c = 0, whatever b is."""

    def contains(self, matrix):
        """Tell if a matrix is a member."""
        check_matrix(matrix)
        a, c = matrix[0][0], matrix[1][0]
        # With c a multiple of the level, a * d - 1 is one, so there is no need to look at d.
        return c % self._level == 0 and ((a - 1) % self._level == 0 or (a + 1) % self._level == 0)

    @classmethod
    def size(cls, level):
        """Return the index of the rule of this level."""
        check_level(level)
        return _size_of_one(level)


class LevelFull(LevelOne):
    """The rule whose members are alike to the identity."""

    def contains(self, matrix):
        """Tell if a matrix is a member."""
        return are_alike(matrix, IDENTITY, self._level)

    @classmethod
    def size(cls, level):
        """Return the index of the rule of this level."""
        check_level(level)
        return level * _size_of_one(level)


class Common(Rule):
    """The rule whose members are the common members of rules."""

    def __init__(self, *rules):
        for rule in rules:
            check_rule(rule)
        self._rules = rules

    def contains(self, matrix):
        """Tell if a matrix is a member."""
        return Rule.in_all(matrix, *self._rules)


class Conjugated(Rule):
    """The rule whose members are the products of a matrix, a member of a rule, and the inverse of the matrix."""

    def __init__(self, rule, matrix):
        check_rule(rule)
        check_matrix(matrix)
        self._rule = rule
        self._matrix = matrix

    def contains(self, matrix):
        """Tell if a matrix is a member."""
        return self._rule.contains(product(inverse(self._matrix), matrix, self._matrix))


def check_rule(rule):
    """Raise BadRule if the argument is not a rule."""
    if not isinstance(rule, Rule):
        raise BadRule("not a rule")


def check_level(level):
    """Raise BadNumber if the argument is not a level that a rule may have."""
    check_number(level, 1, MOST_LEVEL)


def _place_of(rule, backward, matrix):
    """Return the place to which a matrix leads place 0 by a rule; add the inverse of the matrix if the place is new."""
    for place, back in enumerate(backward):
        if rule.contains(product(matrix, back)):
            return place
    if len(backward) == MAX_PLACES:
        raise TooMany(MAX_PLACES)
    backward.append(inverse(matrix))
    return len(backward) - 1


def _primes_of(number):
    """Return the list of the primes that divide a number."""
    found = []
    for divisor in range(2, number + 1):
        if number % divisor == 0 and all([divisor % prime != 0 for prime in found]):
            found.append(divisor)
    return found


def _size_of_one(level):
    """Return the index of the rule LevelOne of this level."""
    # Modulo 2 the negative of a matrix is the matrix itself, so the general formula does not count half of them.
    if level < 3:
        return 3 if level == 2 else 1
    double = level * level
    for prime in _primes_of(level):
        double = double // (prime * prime) * (prime * prime - 1)
    return double // 2
