"""Floors for the tests, made and followed without the package."""

from itertools import permutations

from support import IDENTITY, R, S, multiplied, scattered

EVEN = ((2, 1, 0), (1, 2, 0))
ODD = ((2, 3, 0, 1, 6, 5, 4), (1, 2, 0, 4, 5, 3, 6))
ONE = ((0,), (0,))


# Values that are no floors, with the part that is wrong.
WRONG_FLOORS = [(None, "form"), ([(0,), (0,)], "form"), (((0,), (0, 1)), "form"), (((1, 1), (0, 1)), "s"),
                (((0, 1), (1, 0)), "r"), (((0, 1), (0, 1)), "connected")]


def follow(floor, place, word):
    """The place to which the letters of a word lead a place, one after the other."""
    s, r = floor
    for letter in word:
        place = {"S": s, "R": r}[letter][place] if letter != "r" else r.index(place)
    return place


def reachable(s, r, start=0):
    """The places that can be reached by s and r."""
    found = {start}
    while True:
        more = found | {row[x] for row in (s, r) for x in found}
        if more == found:
            return found
        found = more


def restored(row, times):
    """Whether a permutation, taken so many times, leads each place to itself."""
    places = list(range(len(row)))
    for _ in range(times):
        places = [row[x] for x in places]
    return places == list(range(len(row)))


def all_small_floors(places):
    """All floors with so many places, under all numbers that keep place 0 or not."""
    rows = list(permutations(range(places)))
    halves = [row for row in rows if restored(row, 2)]
    thirds = [row for row in rows if restored(row, 3)]
    return [(s, r) for s in halves for r in thirds if len(reachable(s, r)) == places]


def renamed(floor, names):
    """The floor in which each place x is called names[x]."""
    s, r = floor
    old = {new: x for x, new in enumerate(names)}
    return (tuple(names[s[old[x]]] for x in range(len(s))), tuple(names[r[old[x]]] for x in range(len(r))))


def shuffled(count, seed):
    """The numbers below count in an order that follows no simple pattern."""
    keys = scattered(count, 2 ** 31, seed)
    return sorted(range(count), key=lambda x: (keys[x], x))


def scattered_floor(places, seed, by_s=0, by_r=0):
    """A floor with at most so many places; about by_s of them are fixed by s, and about by_r by r."""
    s, r = list(range(places)), list(range(places))
    row = shuffled(places, seed)[by_s:]
    for x, y in zip(row[::2], row[1::2]):
        s[x], s[y] = y, x
    row = shuffled(places, seed + 1000)[by_r:]
    for x, y, z in zip(row[::3], row[1::3], row[2::3]):
        r[x], r[y], r[z] = y, z, x
    kept = sorted(reachable(s, r))
    return (tuple(kept.index(s[x]) for x in kept), tuple(kept.index(r[x]) for x in kept))


def modular_floor(modulus, key):
    """The floor whose places are the classes of matrices with the same key, and that gives each class its number."""
    numbers = {key(IDENTITY, modulus): 0}
    queue = [IDENTITY]
    rows = {S: [], R: []}
    for matrix in queue:
        for letter in (S, R):
            reached = multiplied([matrix, letter])
            if key(reached, modulus) not in numbers:
                numbers[key(reached, modulus)] = len(numbers)
                queue.append(reached)
            rows[letter].append(numbers[key(reached, modulus)])
    return (tuple(rows[S]), tuple(rows[R])), numbers


def zero_key(matrix, modulus):
    """Two matrices have the same key if one is the other one times a matrix whose c is a multiple of the modulus."""
    c, d = matrix[1]
    return min((k * c % modulus, k * d % modulus) for k in range(1, modulus + 1) if is_coprime(k, modulus))


def full_key(matrix, modulus):
    """Two matrices have the same key if they are alike."""
    (a, b), (c, d) = matrix
    return max(tuple(x * sign % modulus for x in (a, b, c, d)) for sign in (1, -1))


def is_coprime(one, other):
    while other != 0:
        one, other = other, one % other
    return abs(one) == 1


def zero_floor(modulus):
    """The floor whose members are the matrices with c a multiple of the modulus."""
    return modular_floor(modulus, zero_key)[0]


def full_floor(modulus):
    """The floor whose members are the matrices that are alike to the identity."""
    return modular_floor(modulus, full_key)[0]


def step_row(floor, letter):
    """The permutation that T or F makes of the places."""
    s, r = floor
    return [r[x] if letter == "T" else r.index(x) for x in s]


def in_common(floors):
    """The floor of the tuples of places that can be reached together from place 0 of each of the floors."""
    listed = [(0,) * len(floors)]
    for places in listed:
        for part in (0, 1):
            reached = tuple(floor[part][x] for floor, x in zip(floors, places))
            if reached not in listed:
                listed.append(reached)
    return tuple(tuple(listed.index(tuple(floor[part][x] for floor, x in zip(floors, places))) for places in listed)
                 for part in (0, 1))


def made_one(floor, places):
    """The floor that results if these places and place 0 become one place, and what follows from it."""
    classes = [{x} for x in range(len(floor[0]))]
    joined = [{0, x} for x in places]
    while joined:
        some = joined.pop()
        met = [one for one in classes if one & some]
        if len(met) > 1:
            whole = set().union(*met)
            classes = [one for one in classes if one not in met] + [whole]
            joined.extend({row[x] for x in whole} for row in floor)
            joined.extend({row.index(x) for x in whole} for row in floor)
    classes.sort(key=min)
    number = {x: at for at, one in enumerate(classes) for x in one}
    return tuple(tuple(number[row[min(one)]] for one in classes) for row in floor)


def as_listed(floor, base):
    """The walk, tile after tile, as the document tells it."""
    s, r = floor
    tiles = [frozenset([x, r[x], r[r[x]]]) for x in range(len(r))]
    entered = [base]
    listed = []
    for x in entered:
        rows = list(dict.fromkeys([x, r[x], r[r[x]]]))
        listed.extend(rows)
        for y in rows:
            if tiles[s[y]] not in [tiles[z] for z in entered]:
                entered.append(s[y])
    return tuple(listed)


def as_numbered(floor, base):
    """The floor in which each place has its index in the walk as its number."""
    listed = as_listed(floor, base)
    return renamed(floor, [listed.index(x) for x in range(len(listed))])


SCATTERED = [scattered_floor(places, seed, by_s, by_r) for places, seed, by_s, by_r in [
    (7, 1, 1, 1), (9, 2, 1, 3), (12, 3, 0, 0), (13, 4, 3, 1), (20, 5, 4, 5), (30, 6, 2, 0), (48, 7, 0, 3), (61, 8, 1, 4),
    (90, 9, 6, 6), (119, 10, 1, 2), (120, 11, 0, 0), (120, 12, 10, 6)]]

# A row of places that s and r lead to and fro: the roads are as long as they can be.
CHAIN = (tuple([0] + [x + 1 if x % 3 == 2 else x - 1 if x % 3 == 0 else x for x in range(1, 119)] + [119]),
         tuple(x - 2 if x % 3 == 2 else x + 1 for x in range(120)))

FLOORS = ([ONE, EVEN, ODD, ((0, 2, 1), (1, 2, 0)), ((1, 0), (0, 1)), ((0, 1, 2), (1, 2, 0)), ((1, 0, 2), (2, 0, 1))]
          + all_small_floors(4) + all_small_floors(5)[::7]
          + [zero_floor(modulus) for modulus in (3, 4, 5, 6, 7, 8, 9, 11, 12, 13, 22, 37, 113)]
          + [full_floor(modulus) for modulus in (2, 3, 4, 5, 6)] + SCATTERED
          + [CHAIN, scattered_floor(120, 14, 2, 30)])

# Two floors whose intersection has exactly 120 places, and two with one place more.
WITH_120 = (((3, 5, 2, 0, 6, 1, 4, 9, 8, 7), (1, 2, 0, 4, 5, 3, 7, 8, 6, 9)),
            ((0, 3, 4, 1, 2, 7, 10, 5, 8, 11, 6, 9), (1, 2, 0, 3, 5, 6, 4, 8, 9, 7, 10, 11)))
WITH_121 = (((3, 5, 2, 0, 6, 1, 4, 9, 10, 7, 8), (1, 2, 0, 4, 5, 3, 7, 8, 6, 9, 10)),
            ((0, 3, 6, 1, 5, 4, 2, 9, 10, 7, 8), (1, 2, 0, 4, 5, 3, 7, 8, 6, 9, 10)))

FEW = [ONE, EVEN, ODD, ((1, 0), (0, 1)), ((0, 1, 2), (1, 2, 0)), zero_floor(5), zero_floor(11), full_floor(3), SCATTERED[3],
       SCATTERED[4]]
