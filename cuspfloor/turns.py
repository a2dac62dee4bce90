"""Turns: objects that stand for matrices and are combined by operators."""

from cuspfloor.matrices import IDENTITY, check_matrix, inverse, power, product
from cuspfloor.ratios import taken
from cuspfloor.texts import matrix_text
from cuspfloor.words import matrix_of_word


class Turn:
    """A matrix that can be multiplied, inverted and compared, and that takes fractions to fractions."""

    MOST_EXPONENT = 200

    def __init__(self, matrix):
        check_matrix(matrix)
        self._rows = matrix

    @classmethod
    def of_word(cls, word):
        """Return the turn for the matrix of a word."""
        return cls(matrix_of_word(word))

    @property
    def rows(self):
        """The matrix."""
        return self._rows

    def raised(self, exponent):
        """Return the turn for the power, for exponents from -200 to 200."""
        return Turn(power(self._rows, exponent))

    def __mul__(self, other):
        if not isinstance(other, Turn):
            return NotImplemented
        return Turn(product(self._rows, other._rows))

    def __invert__(self):
        return Turn(inverse(self._rows))

    def __eq__(self, other):
        return isinstance(other, Turn) and self._rows == other._rows

    def __bool__(self):
        return bool(self._rows != IDENTITY)

    def __str__(self):
        return str(matrix_text(self._rows))

    def __call__(self, fraction):
        """Return the fraction to which the matrix takes a fraction."""
        return taken(self._rows, fraction)
