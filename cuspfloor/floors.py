"""Floors: pairs of permutations that play the parts of S and R, and the walks through them."""

from cuspfloor.errors import BadFloor, BadPlace
from cuspfloor.matrices import check_matrix, is_whole
from cuspfloor.words import check_word, expansion

MAX_PLACES = 120


def check_floor(floor):
    """Raise BadFloor if the argument is not a floor."""
    part = _wrong_part(floor)
    if part is not None:
        raise BadFloor(part)


def is_floor(value):
    """Tell if a value is a floor."""
    return _wrong_part(value) is None


def check_place(floor, place):
    """Raise BadPlace if the second argument is not a place of the floor."""
    if not is_whole(place) or place < 0 or place >= len(floor[0]):
        raise BadPlace(place)


def lead(floor, place, matrix):
    """Return the place to which a matrix leads a place."""
    check_floor(floor)
    check_place(floor, place)
    check_matrix(matrix)
    return led_by_powers(power_tables(floor), place, expansion(matrix))


def lead_by_word(floor, place, word):
    """Return the place to which a word leads a place."""
    check_floor(floor)
    check_place(floor, place)
    check_word(word)
    tables = letter_tables(floor)
    for letter in word:
        place = tables[letter][place]
    return place


def is_member(floor, matrix):
    """Tell if a matrix leads place 0 to itself."""
    return lead(floor, 0, matrix) == 0


def walk(floor, *, base=0):
    """Return the tuple of the places in the order of the walk that begins at the base."""
    check_floor(floor)
    check_place(floor, base)
    return _walked(floor, base)


def numbered(floor, *, base=0):
    """Return the standard floor that results if the places get their numbers from the walk."""
    check_floor(floor)
    check_place(floor, base)
    return _numbered_from(floor, base)


def same_group(first, second):
    """Tell if two floors have the same group."""
    check_floor(first)
    check_floor(second)
    return _numbered_from(first, 0) == _numbered_from(second, 0)


def conjugate_base(first, second):
    """Return the least base whose numbering of the first floor gives the standard floor of the second one, or None."""
    check_floor(first)
    check_floor(second)
    goal = _numbered_from(second, 0)
    for base in range(len(first[0])):
        if _numbered_from(first, base) == goal:
            return base
    return None


def relatives(floor):
    """Return the ascending tuple of the standard floors that the numberings by all bases give."""
    check_floor(floor)
    return tuple(sorted(set([_numbered_from(floor, base) for base in range(len(floor[0]))])))


def letter_tables(floor):
    """Return a dict with a permutation of the places for each letter of a word."""
    s, r = floor
    return {"S": s, "R": r, "r": tuple([r[r[x]] for x in range(len(r))])}


def power_tables(floor):
    """Return a dict with a list for each letter of an expansion: of each place, its cycle and its index in it."""
    tables = letter_tables(floor)
    s, r, back = tables["S"], tables["R"], tables["r"]
    return {"S": _seats(s), "T": _seats([r[x] for x in s]), "F": _seats([back[x] for x in s])}


def led_by_powers(tables, place, powers):
    """Return the place to which powers lead a place, whatever the size of their exponents."""
    for letter, exponent in powers:
        cycle, at = tables[letter][place]
        place = cycle[(at + exponent) % len(cycle)]
    return place


def cycles_of_permutation(permutation):
    """Return the list of the cycles of a permutation, each from its least place on, in ascending order."""
    found = []
    seen = [False] * len(permutation)
    for first in range(len(permutation)):
        if not seen[first]:
            cycle = [first]
            while permutation[cycle[-1]] != first:
                cycle.append(permutation[cycle[-1]])
            for x in cycle:
                seen[x] = True
            found.append(tuple(cycle))
    return found


def entries_of_walk(floor, base):
    """Return a dict of the places at which the walk enters tiles, in this order.

    The value is the place from which the step to the entry goes, and None at the base.
    """
    s, r = floor
    entries = {base: None}
    queue = [base]
    entered = {x: True for x in tile_of(r, base)}
    done = 0
    while done < len(queue):
        tile = tile_of(r, queue[done])
        for y in tile:
            x = s[y]
            if x not in entered:
                entries[x] = y
                queue.append(x)
                for z in tile_of(r, x):
                    entered[z] = True
        done = done + 1
    return entries


def tile_of(r, x):
    """Return the places of the tile of a place, as they are listed if it is entered there."""
    if r[x] == x:
        return (x,)
    return (x, r[x], r[r[x]])


def _wrong_part(value):
    """Return the first part of a value that keeps it from being a floor, or None."""
    if not _has_form(value):
        return "form"
    s, r = value
    if not _is_restored(s, 2):
        return "s"
    if not _is_restored(r, 3):
        return "r"
    if len(_walked(value, 0)) < len(s):
        return "connected"
    return None


def _has_form(value):
    """Tell if a value is a pair of tuples of the same length, which is from 1 to 120."""
    if not isinstance(value, tuple) or len(value) != 2:
        return False
    s, r = value
    return isinstance(s, tuple) and isinstance(r, tuple) and len(s) == len(r) and 1 <= len(s) <= MAX_PLACES


def _is_restored(row, times):
    """Tell if a tuple contains each place once, and leads each place back to itself after so many times."""
    if not all([is_whole(x) and 0 <= x < len(row) for x in row]):
        return False
    # A row that leads each place back to itself cannot contain a place twice.
    for first in range(len(row)):
        x = first
        for _ in range(times):
            x = row[x]
        if x != first:
            return False
    return True


def _walked(floor, base):
    """Return the tuple of the places in the order of the walk, without a check."""
    return tuple([x for entry in entries_of_walk(floor, base) for x in tile_of(floor[1], entry)])


def _numbered_from(floor, base):
    """Return the floor numbered by a base, without a check."""
    s, r = floor
    places = _walked(floor, base)
    numbers = {x: at for at, x in enumerate(places)}
    return (tuple([numbers[s[x]] for x in places]), tuple([numbers[r[x]] for x in places]))


def _seats(permutation):
    """Return a list with the cycle of each place and its index in it."""
    seats = [None] * len(permutation)
    for cycle in cycles_of_permutation(permutation):
        for at, x in enumerate(cycle):
            seats[x] = (cycle, at)
    return seats
