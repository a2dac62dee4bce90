"""Group objects: each stands for the group of a floor."""

from cuspfloor.floors import is_member, lead, numbered
from cuspfloor.matrices import inverse, is_matrix
from cuspfloor.rules import check_rule
from cuspfloor.several import generated, intersection, missing


class Group:
    """The group of a floor, which can be combined and compared with other ones."""

    def __init__(self, floor):
        self._floor = numbered(floor)

    @classmethod
    def of_rule(cls, rule):
        """Return the group object with the members of a rule."""
        check_rule(rule)
        return cls(rule.standard_floor())

    @property
    def floor(self):
        """The standard floor of the group."""
        return self._floor

    def is_within(self, group):
        """Tell if all members are members of another group object."""
        return missing(group.floor, self._floor) is None

    def moved(self, matrix):
        """Return the group object with the products of the matrix, a member, and the inverse of the matrix."""
        # The inverse leads place 0 to the place by which the floor of the moved group is numbered.
        base = lead(self._floor, 0, inverse(matrix))
        return Group(numbered(self._floor, base=base))

    def __contains__(self, x):
        return is_matrix(x) and is_member(self._floor, x)

    def __len__(self):
        return len(self._floor[0])

    def __eq__(self, other):
        return isinstance(other, Group) and self._floor == other._floor

    def __and__(self, other):
        if not isinstance(other, Group):
            return NotImplemented
        return Group(intersection(self._floor, other._floor))

    def __or__(self, other):
        if not isinstance(other, Group):
            return NotImplemented
        return Group(generated(self._floor, other._floor))
