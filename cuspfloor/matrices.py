"""Matrices of two rows of two integers, with the determinant 1, up to their sign."""

from cuspfloor.errors import BadMatrix, BadNumber

IDENTITY = ((1, 0), (0, 1))
S = ((0, -1), (1, 0))
R = ((0, -1), (1, 1))
T = ((1, 1), (0, 1))
F = ((1, 0), (1, 1))

MOST_EXPONENT = 200


def is_whole(value):
    """Tell if a value is an integer, which True and False are not."""
    return isinstance(value, int) and not isinstance(value, bool)


def check_number(value, least, most):
    """Raise BadNumber if a value is not an integer from least to most, where None stands for no upper limit."""
    if not is_whole(value) or value < least or (most is not None and value > most):
        raise BadNumber(value)


def is_pair(value):
    """Tell if a value is a tuple of two integers."""
    return isinstance(value, tuple) and len(value) == 2 and is_whole(value[0]) and is_whole(value[1])


def is_matrix(value):
    """Tell if a value is a matrix."""
    return _has_determinant_one(value) and _normal_form(value) == value


def check_matrix(matrix):
    """Raise BadMatrix if the argument is not a matrix."""
    if not is_matrix(matrix):
        raise BadMatrix("not a matrix")


def normal(rows):
    """Return the normal form of two rows of two integers with the determinant 1."""
    if not _has_determinant_one(rows):
        raise BadMatrix("not two rows of two integers with the determinant 1")
    return _normal_form(rows)


def product(*matrices):
    """Return the product of matrices, from left to right."""
    for matrix in matrices:
        check_matrix(matrix)
    result = IDENTITY
    for matrix in matrices:
        result = _times(result, matrix)
    return _normal_form(result)


def inverse(matrix):
    """Return the inverse of a matrix."""
    check_matrix(matrix)
    (a, b), (c, d) = matrix
    return _normal_form(((d, -b), (-c, a)))


def power(matrix, exponent):
    """Return the power of a matrix, for exponents from -200 to 200."""
    check_matrix(matrix)
    check_number(exponent, -MOST_EXPONENT, MOST_EXPONENT)
    factor = matrix if exponent > 0 else inverse(matrix)
    result = IDENTITY
    for _ in range(abs(exponent)):
        result = _times(result, factor)
    return _normal_form(result)


def order(matrix):
    """Return the least k of at least 1 such that the power k is the identity, or 0 if there is none."""
    check_matrix(matrix)
    if matrix == IDENTITY:
        return 1
    trace = matrix[0][0] + matrix[1][1]
    if trace == 0:
        return 2
    if abs(trace) == 1:
        return 3
    return 0


def _has_determinant_one(value):
    """Tell if a value is a tuple of two tuples of two integers, with the determinant 1."""
    if not isinstance(value, tuple) or len(value) != 2 or not is_pair(value[0]) or not is_pair(value[1]):
        return False
    (a, b), (c, d) = value
    return a * d - b * c == 1


def _normal_form(rows):
    """Return that one of the rows and their negatives which is a matrix."""
    (a, b), (c, d) = rows
    # With c = 0 the determinant leaves a = d = 1 and a = d = -1.
    if c < 0 or (c == 0 and a < 0):
        return ((-a, -b), (-c, -d))
    return ((a, b), (c, d))


def _times(one, other):
    """Return the product in the usual sense, which need not be a normal form."""
    (a, b), (c, d) = one
    (e, f), (g, h) = other
    return ((a * e + b * g, a * f + b * h), (c * e + d * g, c * f + d * h))
