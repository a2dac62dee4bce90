"""The errors of the package: three base classes, which are never raised, and their direct subclasses.

The messages leave the fields out: a field may be a value of any kind, which need not have a short text.
"""


class MatrixError(ValueError):
    """An argument is not what it has to be."""


class LimitError(ArithmeticError):
    """A result would be larger than a limit of the package."""


class WalkError(LookupError):
    """Something that was asked for is not there."""


class BadMatrix(MatrixError):
    """A value is not a matrix."""


class BadFraction(MatrixError):
    """A value is not a fraction."""


class BadWord(MatrixError):
    """A value is not a word: index is that of its first wrong character, or None."""

    def __init__(self, index):
        super().__init__("not a word")
        self.index = index


class BadFloor(MatrixError):
    """A value is not a floor: part is "form", "s", "r" or "connected"."""

    def __init__(self, part):
        super().__init__("not a floor")
        self.part = part


class BadPlace(MatrixError):
    """A value is not a place of the floor."""

    def __init__(self, value):
        super().__init__("not a place of the floor")
        self.value = value


class BadNumber(MatrixError):
    """A value is not an integer, or not one of those that are allowed here."""

    def __init__(self, value):
        super().__init__("not an integer that is allowed here")
        self.value = value


class BadExpression(MatrixError):
    """A value is not an expression: index is that of its first wrong item, or None."""

    def __init__(self, index):
        super().__init__("not an expression in the makers of the floor")
        self.index = index


class BadRule(MatrixError):
    """A value is not a rule."""


class BadText(MatrixError):
    """A value is not the text of what was to be read: part is its first wrong part, from 1, or 0."""

    def __init__(self, part):
        super().__init__("not a text of this kind")
        self.part = part


class TooLong(LimitError):
    """A word would have more letters than the limit."""

    def __init__(self, limit):
        super().__init__("more letters than the limit")
        self.limit = limit


class TooMany(LimitError):
    """A floor, or its level, would be greater than the limit."""

    def __init__(self, limit):
        super().__init__("more than the limit")
        self.limit = limit


class NotMember(WalkError):
    """A matrix is not a member: reached is the place to which it leads place 0."""

    def __init__(self, reached):
        super().__init__("not a member of the floor")
        self.reached = reached


class NothingToUndo(WalkError):
    """The history has fewer calls than are to be undone."""
