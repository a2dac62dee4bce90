"""Texts of matrices and floors, the parsers of such texts, and tables of floors."""

from cuspfloor.errors import BadText
from cuspfloor.floors import MAX_PLACES, check_floor, is_floor
from cuspfloor.makers import roads
from cuspfloor.matrices import check_matrix, is_matrix

MOST_DIGITS = 400
ENTRIES = 4


def matrix_text(matrix):
    """Return the text of a matrix."""
    check_matrix(matrix)
    (a, b), (c, d) = matrix
    return f"{a} {b} {c} {d}"


def floor_text(floor):
    """Return the text of a floor."""
    check_floor(floor)
    s, r = floor
    return " ".join([str(x) for x in s] + ["/"] + [str(x) for x in r])


def floor_table(floor):
    """Return a table with a line for each place x, with s[x], r[x] and the road of x."""
    ways = roads(floor)
    s, r = floor
    return "\n".join([_table_line(x, s[x], r[x], ways[x]) for x in range(len(s))])


def parse_matrix(text):
    """Return the matrix that has a text."""
    parts = _parts_of(text)
    for at, part in enumerate(parts):
        if at >= ENTRIES or not _is_integer_text(part):
            raise BadText(at + 1)
    if len(parts) < ENTRIES:
        raise BadText(len(parts) + 1)
    a, b, c, d = [int(part) for part in parts]
    matrix = ((a, b), (c, d))
    if not is_matrix(matrix):
        raise BadText(ENTRIES)
    return matrix


def parse_floor(text):
    """Return the floor that has a text."""
    parts = _parts_of(text)
    numbers = {str(x): x for x in range(MAX_PLACES)}
    s = _row_of(parts, 0, numbers)
    slash = len(s)
    if slash == 0 or slash == len(parts) or parts[slash] != "/":
        raise BadText(slash + 1)
    r = _row_of(parts, slash + 1, {str(x): x for x in s})
    last = slash + 1 + len(r)
    if last < len(parts) or len(r) < len(s):
        raise BadText(last + 1)
    floor = (s, r)
    if not is_floor(floor):
        raise BadText(len(parts))
    return floor


def _table_line(x, by_s, by_r, road):
    """Return the line of a place in the table of a floor."""
    shown = "-" if road == "" else road
    return f"{x:>4}{by_s:>4}{by_r:>4}  {shown}"


def _parts_of(text):
    """Return the list of what stands between single spaces; raise BadText for what is not a string."""
    if not isinstance(text, str):
        raise BadText(0)
    return text.split(" ")


def _is_integer_text(part):
    """Tell if a part is the text of an integer that is not too long."""
    if part == "0":
        return True
    digits = part.removeprefix("-")
    if not digits.isascii() or not digits.isdigit() or len(digits) > MOST_DIGITS:
        return False
    return digits[0] != "0"


def _row_of(parts, first, numbers):
    """Return the tuple of the numbers that stand from some part on, up to a part that cannot be the next one."""
    row = []
    used = {}
    for part in parts[first:]:
        if part not in numbers or part in used:
            break
        used[part] = True
        row.append(numbers[part])
    return tuple(row)
