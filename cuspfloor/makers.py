"""The makers of a floor: independent members of which every member is a product in one reduced way."""

from cuspfloor.errors import BadExpression, NotMember
from cuspfloor.floors import check_floor, entries_of_walk, lead, letter_tables, tile_of
from cuspfloor.matrices import R, S, check_matrix, inverse, is_pair, product
from cuspfloor.words import matrix_of_word, word_of

MAX_PAIRS = 2000


def roads(floor):
    """Return the tuple of the roads, words that lead place 0 to each of the places."""
    check_floor(floor)
    return _roads(floor)


def makers(floor):
    """Return the tuple of the makers, each as a pair of its order and its matrix."""
    check_floor(floor)
    ways = [matrix_of_word(road) for road in _roads(floor)]
    found = []
    for order, x, y in _sources(floor):
        letter = R if order == 3 else S
        found.append((order, product(ways[x], letter, inverse(ways[y]))))
    return tuple(found)


def expressed(floor, matrix):
    """Return the reduced expression of a member."""
    check_floor(floor)
    check_matrix(matrix)
    reached = lead(floor, 0, matrix)
    if reached != 0:
        raise NotMember(reached)
    word = word_of(matrix)
    tables = letter_tables(floor)
    readings = _readings(floor)
    place = 0
    pairs = []
    for letter in word:
        if (letter, place) in readings:
            pairs.append(readings[(letter, place)])
        place = tables[letter][place]
    return tuple(pairs)


def expression_matrix(floor, expression):
    """Return the matrix of an expression, which need not be reduced."""
    check_floor(floor)
    if not _has_expression_form(expression):
        raise BadExpression(None)
    wrong = _first_wrong(_orders(floor), expression)
    if wrong is not None:
        raise BadExpression(wrong)
    matrices = [matrix for _, matrix in makers(floor)]
    backward = [inverse(matrix) for matrix in matrices]
    factors = [matrices[index] if exponent == 1 else backward[index] for index, exponent in expression]
    return product(*factors)


def is_reduced(floor, value):
    """Tell if a value is a reduced expression of the makers."""
    check_floor(floor)
    orders = _orders(floor)
    if not _has_expression_form(value) or _first_wrong(orders, value) is not None:
        return False
    return not any([_can_be_joined(orders, one, other) for one, other in zip(value, value[1:])])


def _roads(floor):
    """Return the tuple of the roads, without a check."""
    _, r = floor
    entries = entries_of_walk(floor, 0)
    found = {}
    for x, before in entries.items():
        road = "" if before is None else found[before] + "S"
        # A tile of one place has only the first of these three letters.
        for y, letter in zip(tile_of(r, x), ("", "R", "r")):
            found[y] = road + letter
    return tuple([found[x] for x in range(len(r))])


def _sources(floor):
    """Return the list of the makers, each as its order and two places.

    The maker goes by the road of the first place, by a letter, and back by the road of the second place.
    """
    s, r = floor
    entries = entries_of_walk(floor, 0)
    passed = {}
    found = []
    for entry in entries:
        for x in tile_of(r, entry):
            y = s[x]
            passed[x] = True
            if r[x] == x:
                found.append((3, x, x))
            if y == x:
                found.append((2, x, x))
            elif y not in passed and entries.get(y) != x:
                found.append((0, x, y))
    return found


def _orders(floor):
    """Return the list of the orders of the makers."""
    return [order for order, _, _ in _sources(floor)]


def _readings(floor):
    """Return a dict with the pair of an expression for each letter at a place that gives one."""
    readings = {}
    for index, (order, x, y) in enumerate(_sources(floor)):
        if order == 3:
            readings[("R", x)] = (index, 1)
            readings[("r", x)] = (index, -1)
        else:
            # With order 2 both places are the same, and the exponent 1 has to remain.
            readings[("S", y)] = (index, -1)
            readings[("S", x)] = (index, 1)
    return readings


def _has_expression_form(value):
    """Tell if a value is a tuple that is not too long for an expression."""
    return isinstance(value, tuple) and len(value) <= MAX_PAIRS


def _first_wrong(orders, items):
    """Return the index of the first item that cannot stand in an expression, or None."""
    for at, item in enumerate(items):
        if not _is_expression_pair(orders, item):
            return at
    return None


def _is_expression_pair(orders, item):
    """Tell if an item is the index of a maker with an exponent that it may have."""
    if not is_pair(item):
        return False
    index, exponent = item
    if index < 0 or index >= len(orders):
        return False
    return exponent == 1 or (exponent == -1 and orders[index] != 2)


def _can_be_joined(orders, one, other):
    """Tell if two neighbours in an expression can be replaced by one pair or by none."""
    return one[0] == other[0] and (orders[one[0]] != 0 or one[1] != other[1])
