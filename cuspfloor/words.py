"""Words in the letters S, R and r, the expansions of matrices, and conjugate matrices."""

from cuspfloor.errors import BadWord, TooLong
from cuspfloor.matrices import R, S, check_matrix, inverse, product

MAX_WORD = 2000

# The letters of an expansion cancel at two places at most: behind a first power of T with a negative exponent,
# and before the last power of T. Each place loses at most three letters. One more is for the pair ("S", 1),
# which gives one letter and is counted as two.
MOST_LOST = 7


def is_word(value):
    """Tell if a value is a word."""
    return isinstance(value, str) and len(value) <= MAX_WORD and _first_wrong(value) is None


def check_word(word):
    """Raise BadWord if the argument is not a word."""
    if not isinstance(word, str) or len(word) > MAX_WORD:
        raise BadWord(None)
    wrong = _first_wrong(word)
    if wrong is not None:
        raise BadWord(wrong)


def word_of(matrix):
    """Return the word of a matrix."""
    powers = expansion(matrix)
    # Exponents may have hundreds of digits, so the letters are counted before they are written.
    if 2 * sum([abs(exponent) for letter, exponent in powers]) > MAX_WORD + MOST_LOST:
        raise TooLong(MAX_WORD)
    return _reduced([_letters_of_power(letter, exponent) for letter, exponent in powers])


def matrix_of_word(word):
    """Return the matrix of a word."""
    check_word(word)
    return _matrix_of_letters(word)


def joined(*words):
    """Return the word of the product of the matrices of words."""
    for word in words:
        check_word(word)
    return _reduced(words)


def expansion(matrix):
    """Return the expansion of a matrix: a tuple of pairs of a letter and an exponent."""
    check_matrix(matrix)
    (a, b), (c, d) = matrix
    if c == 0:
        powers = [("T", b)]
    else:
        numbers = quotients(a, c)
        powers = [("T" if at % 2 == 0 else "F", number) for at, number in enumerate(numbers)]
        # The product of these powers, and S where it is needed, is ((a, x), (c, y)). The last power of T adds
        # a multiple of c to y, which is from 0 to c - 1 if F comes last, and from 1 - c to 0 if S does.
        if len(numbers) % 2 == 0:
            powers.append(("T", d // c))
        else:
            powers.append(("S", 1))
            powers.append(("T", -(-d // c)))
    return tuple([pair for pair in powers if pair[1] != 0])


def quotients(top, low):
    """Return the list of the integers k(0), ..., k(m) of the continued fraction of top / low, for low > 0."""
    numbers = []
    while low != 0:
        numbers.append(top // low)
        top, low = low, top % low
    return numbers


def cyclic_word(matrix):
    """Return the smallest cyclic word with a matrix that is conjugate to this one."""
    _, least = _cyclic_parts(matrix)
    return least


def conjugator(one, other):
    """Return a matrix C such that other is the product of C, one and the inverse of C, or None."""
    check_matrix(one)
    check_matrix(other)
    way, least = _cyclic_parts(one)
    other_way, other_least = _cyclic_parts(other)
    if least != other_least:
        return None
    return product(_matrix_of_letters(other_way), inverse(_matrix_of_letters(way)))


def _first_wrong(text):
    """Return the index of the first character that cannot stand at its place in a word, or None."""
    before = ""
    for at, letter in enumerate(text):
        if letter not in ("S", "R", "r"):
            return at
        if before != "" and (before == "S") == (letter == "S"):
            return at
        before = letter
    return None


def _matrix_of_letters(letters):
    """Return the product of the matrices of letters, which need not form a word."""
    table = {"S": S, "R": R, "r": inverse(R)}
    factors = [table[letter] for letter in letters]
    return product(*factors)


def _letters_of_power(letter, exponent):
    """Return the word of a power in an expansion, in which only T may have a negative exponent."""
    if letter == "S":
        return "S"
    if letter == "F":
        return "Sr" * exponent
    if exponent < 0:
        return "rS" * -exponent
    return "SR" * exponent


def _reduced(words):
    """Return the word that is left when the letters of these words are put together; raise TooLong for a long one."""
    kept = []
    for letter in "".join(words):
        if not kept or (kept[-1] == "S") != (letter == "S"):
            kept.append(letter)
        elif letter == "S" or kept[-1] != letter:
            kept.pop()
        else:
            kept[-1] = "r" if letter == "R" else "R"
    if len(kept) > MAX_WORD:
        raise TooLong(MAX_WORD)
    return "".join(kept)


def _is_cyclic(word):
    """Tell if a word is cyclic."""
    return len(word) < 2 or (word[0] == "S" and word[-1] != "S")


def _cyclic_parts(matrix):
    """Return letters and the smallest cyclic word such that letters, word and inverse letters give the matrix."""
    word = word_of(matrix)
    rest = word
    moved = 0
    while not _is_cyclic(rest):
        # The first letter, which is still that of the given word, goes to the end, where it may cancel.
        rest = rest[1:-1] + _reduced([rest[-1], rest[0]])
        moved = moved + 1
    turns = [(rest[at:] + rest[:at], rest[:at]) for at in range(0, max(1, len(rest)), 2)]
    least, turned = min(turns)
    return word[:moved] + turned, least
