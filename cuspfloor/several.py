"""What floors have in common, what they generate together, and how many standard floors there are."""

from math import factorial, perm

from cuspfloor.errors import TooMany
from cuspfloor.floors import MAX_PLACES, check_floor, is_floor, is_member, lead, numbered, relatives
from cuspfloor.makers import makers
from cuspfloor.matrices import check_number

MOST_COUNTED = 60
MOST_LISTED = 6


def intersection(*floors):
    """Return the standard floor whose members are the common members of floors."""
    _check_floors(floors)
    start = tuple([0 for _ in floors])
    numbers = {start: 0}
    listed = [start]
    s = []
    r = []
    # The list grows while it is gone through.
    while len(r) < len(listed):
        places = listed[len(r)]
        by_s = tuple([floor[0][x] for floor, x in zip(floors, places)])
        by_r = tuple([floor[1][x] for floor, x in zip(floors, places)])
        for reached in (by_s, by_r):
            if reached not in numbers:
                numbers[reached] = len(listed)
                listed.append(reached)
        if len(listed) > MAX_PLACES:
            raise TooMany(MAX_PLACES)
        s.append(numbers[by_s])
        r.append(numbers[by_r])
    return numbered((tuple(s), tuple(r)))


def generated(*floors):
    """Return the standard floor of the smallest group that contains all members of floors."""
    _check_floors(floors)
    first = floors[0]
    reached = [lead(first, 0, matrix) for floor in floors[1:] for _, matrix in makers(floor)]
    heads = _heads_of_places(first, reached)
    kept = [x for x in range(len(heads)) if heads[x] == x]
    numbers = {x: at for at, x in enumerate(kept)}
    s, r = first
    # Place 0 is the head of its places, so it keeps its number.
    return numbered((tuple([numbers[heads[s[x]]] for x in kept]), tuple([numbers[heads[r[x]]] for x in kept])))


def missing(first, second):
    """Return the matrix of the first maker of the second floor that is not a member of the first one, or None."""
    check_floor(first)
    check_floor(second)
    for _, matrix in makers(second):
        if not is_member(first, matrix):
            return matrix
    return None


def is_normal(floor):
    """Tell if the numberings of a floor by all bases give the same floor."""
    return len(relatives(floor)) == 1


def floor_count(places):
    """Return the number of standard floors with so many places."""
    check_number(places, 1, MOST_COUNTED)
    pairs = _pair_counts(places)
    counts = [0]
    for n in range(1, places + 1):
        # These are the terms of Fact 12, multiplied by (n - 1)! so that all of them are integers.
        others = [counts[k] * pairs[n - k] * perm(n - 1, k - 1) for k in range(1, n)]
        counts.append((pairs[n] - sum(others)) // factorial(n - 1))
    return counts[places]


def all_floors(places):
    """Yield the standard floors with so many places, in ascending order."""
    check_number(places, 1, MOST_LISTED)
    rows = _permutations(places)
    halves = [row for row in rows if all([row[row[x]] == x for x in row])]
    thirds = [row for row in rows if all([row[row[row[x]]] == x for x in row])]
    for s in halves:
        for r in thirds:
            if is_floor((s, r)) and numbered((s, r)) == (s, r):
                yield (s, r)


def _check_floors(floors):
    """Raise BadFloor for the first one that is not a floor."""
    for floor in floors:
        check_floor(floor)


def _heads_of_places(floor, reached):
    """Return the list of the least places that each place becomes one with, if place 0 and these places do so."""
    s, r = floor
    heads = list(range(len(s)))
    queue = [(0, place) for place in reached]
    done = 0
    while done < len(queue):
        x, y = queue[done]
        low, high = min(heads[x], heads[y]), max(heads[x], heads[y])
        if low != high:
            heads = [low if head == high else head for head in heads]
            # All places of one head already go with it by s and by r, so one pair is enough for each of the two.
            queue.append((s[low], s[high]))
            queue.append((r[low], r[high]))
        done = done + 1
    return heads


def _pair_counts(places):
    """Return the list of I(n) * J(n) of Fact 12, for n from 0 to the number of places."""
    halves = [1]
    thirds = [1]
    for n in range(1, places + 1):
        # The last place stays where it is, or it goes round with one or two of the others.
        halves.append(halves[n - 1] + (n - 1) * (halves[n - 2] if n > 1 else 0))
        thirds.append(thirds[n - 1] + (n - 1) * (n - 2) * (thirds[n - 3] if n > 2 else 0))
    return [half * third for half, third in zip(halves, thirds)]


def _permutations(places):
    """Return the list of all permutations of so many places, in ascending order."""
    rows = [()]
    for _ in range(places):
        rows = [row + (x,) for row in rows for x in range(places) if x not in row]
    return rows
