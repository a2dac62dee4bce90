"""What several tests need. It computes with matrices and words on its own, without the package."""

S = ((0, -1), (1, 0))
R = ((0, -1), (1, 1))
T = ((1, 1), (0, 1))
F = ((1, 0), (1, 1))
IDENTITY = ((1, 0), (0, 1))
LETTERS = {"S": S, "R": R, "r": ((-1, -1), (1, 0))}

HUGE = 10 ** 399 + 7


class Thing:
    """An object of a class that the package does not know."""


# None of these is a tuple of integers or of tuples, a string, or an integer.
STRANGE = [None, True, False, b"SR", [], {}, {1}, frozenset(), object(), Thing(), Thing, len, range(2), ValueError("x"),
           [1, 0], {"a": 1}, lambda: 0, iter([1])]

# Tuples and texts that look like a matrix, but are none.
NO_MATRICES = STRANGE + [
    0, 1, -200, HUGE, "", "SR", "1 0 0 1", (), (1, 0, 0, 1), ((1, 0),), ((1, 0), (0, 1), (0, 0)), ((), ()),
    [[1, 0], [0, 1]], [(1, 0), (0, 1)], ([1, 0], (0, 1)), ((1, 0), [0, 1]), ([1, 0], [0, 1]),
    ((1, 0, 0), (0, 1)), ((1, 0), (0, 1, 0)), ((1,), (0, 1)), ((1, 0), (1,)), ((1, 0), ()),
    ((True, 0), (0, 1)), ((1, False), (0, 1)), ((1, 0), (False, 1)), ((1, 0), (0, True)),
    (("1", 0), (0, 1)), ((1, "0"), (0, 1)), ((1, 0), ("0", 1)), ((1, 0), (0, "1")),
    ((None, 0), (0, 1)), ((1, 0), (0, None)), (((1, 0), 0), (0, 1)), (((1, 0), (0, 1)), ((1, 0), (0, 1))),
    (None, None), ((1, 0), None), (None, (0, 1)), ("10", "01"), ((1, 0), "01"), (b"\x01\x00", (0, 1)), (1, 0), (True, False),
    ((1.0, 0), (0, 1)), {0: (1, 0), 1: (0, 1)}, ((1, 0), {0: 0, 1: 1}),
]

# Rows of two integers, but with another determinant than 1.
OTHER_DETERMINANTS = [
    ((0, 0), (0, 0)), ((1, 0), (0, -1)), ((0, 1), (1, 0)), ((2, 0), (0, 1)), ((1, 1), (1, 1)), ((1, 2), (3, 4)),
    ((2, 1), (1, 2)), ((-1, 0), (0, 1)), ((HUGE, 0), (0, HUGE)), ((HUGE, 1), (1, 0)),
]


def times(one, other):
    return tuple(tuple(sum(row[k] * other[k][at] for k in (0, 1)) for at in (0, 1)) for row in one)


def negative(rows):
    return tuple(tuple(-x for x in row) for row in rows)


def plain(rows):
    """The normal form."""
    return max(rows, negative(rows), key=lambda some: (some[1][0], some[0][0]))


def multiplied(matrices):
    result = IDENTITY
    for matrix in matrices:
        result = times(result, matrix)
    return plain(result)


def undone(matrix):
    (a, b), (c, d) = matrix
    return plain(((d, -b), (-c, a)))


def of_letters(letters):
    return multiplied([LETTERS[letter] for letter in letters])


def back(word):
    """The word of the inverse."""
    return word[::-1].swapcase().replace("s", "S")


def words_up_to(length):
    """All words with at most so many letters."""
    found = [""]
    row = [""]
    for _ in range(length):
        row = [word + letter for word in row for letter in "SRr" if word == "" or (word[-1] == "S") != (letter == "S")]
        found.extend(row)
    return found


def scattered(count, below, seed):
    """So many numbers from 0 to below - 1 that follow no simple pattern, the same ones in every run."""
    found = []
    state = seed
    for _ in range(count):
        state = (state * 6364136223846793005 + 1442695040888963407) % 2 ** 64
        found.append((state >> 33) % below)
    return found


def long_word(first, length, seed):
    """A word with so many letters, of which the first one is an S or is not."""
    bits = scattered(length, 2, seed)
    return "".join("S" if (at % 2 == 0) == first else "Rr"[bit] for at, bit in enumerate(bits))


def some_matrices():
    """Matrices of all shapes with small entries, and some with hundreds of digits."""
    small = [plain(((a, b), (c, d))) for c in range(-5, 6) for d in range(-5, 6) for a in range(-7, 8) for b in range(-7, 8)
             if a * d - b * c == 1]
    steps = [((1, HUGE), (0, 1)), ((1, -HUGE), (0, 1)), ((1, 0), (HUGE, 1)), ((HUGE, -1), (1, 0)), ((0, -1), (1, HUGE)),
             multiplied([((1, 3 ** 150), (0, 1)), S, ((1, -5 ** 90), (0, 1)), S, ((1, 7 ** 80), (0, 1))]),
             multiplied([((1, -3 ** 150), (0, 1)), F, ((1, 5 ** 90), (0, 1)), S, ((1, -7 ** 80), (0, 1))])]
    golden = multiplied([T, F] * 470)
    return sorted(set(small)) + steps + [golden, undone(golden)]
