"""Promise [31]: the error classes, their bases and their fields."""

import unittest

from cuspfloor import errors
from support import STRANGE

BASES = {"MatrixError": ValueError, "LimitError": ArithmeticError, "WalkError": LookupError}

# The name of each class, that of its base class, and the name of its field.
CLASSES = [
    ("BadMatrix", "MatrixError", None),
    ("BadFraction", "MatrixError", None),
    ("BadWord", "MatrixError", "index"),
    ("BadFloor", "MatrixError", "part"),
    ("BadPlace", "MatrixError", "value"),
    ("BadNumber", "MatrixError", "value"),
    ("BadExpression", "MatrixError", "index"),
    ("BadRule", "MatrixError", None),
    ("BadText", "MatrixError", "part"),
    ("TooLong", "LimitError", "limit"),
    ("TooMany", "LimitError", "limit"),
    ("NotMember", "WalkError", "reached"),
    ("NothingToUndo", "WalkError", None),
]


class ErrorClasses(unittest.TestCase):
    def test_base_classes(self):
        for name, above in BASES.items():
            self.assertEqual(getattr(errors, name).__bases__, (above,), name)

    def test_direct_subclasses(self):
        for name, base, _ in CLASSES:
            self.assertEqual(getattr(errors, name).__bases__, (getattr(errors, base),), name)

    def test_instances_of_no_other_class(self):
        listed = list(BASES) + [name for name, _, _ in CLASSES]
        for name, base, _ in CLASSES:
            error = getattr(errors, name)("x")
            for other in listed:
                self.assertEqual(isinstance(error, getattr(errors, other)), other in (name, base), (name, other))
            for above in BASES.values():
                self.assertEqual(isinstance(error, above), above == BASES[base], (name, above))

    def test_defined_in_this_file(self):
        for name in list(BASES) + [name for name, _, _ in CLASSES]:
            self.assertEqual(getattr(errors, name).__module__, "cuspfloor.errors")

    def test_raised_and_caught_by_each_class_above(self):
        for name, base, _ in CLASSES:
            for caught in (getattr(errors, name), getattr(errors, base), BASES[base]):
                with self.assertRaises(caught):
                    raise getattr(errors, name)("x")


class Fields(unittest.TestCase):
    def test_field_by_position_and_by_name(self):
        for name, _, field in CLASSES:
            if field is None:
                continue
            for value in STRANGE + [0, 7, "form", ((1, 0), (0, 1)), 10 ** 399]:
                self.assertIs(getattr(getattr(errors, name)(value), field), value, name)
                self.assertIs(getattr(getattr(errors, name)(**{field: value}), field), value, name)

    def test_field_is_needed(self):
        for name, _, field in CLASSES:
            if field is not None:
                with self.assertRaises(TypeError):
                    getattr(errors, name)()

    def test_message(self):
        for name, _, field in CLASSES:
            if field is None:
                self.assertEqual(str(getattr(errors, name)("the message")), "the message")
            else:
                self.assertIsInstance(str(getattr(errors, name)(0)), str)


if __name__ == "__main__":
    unittest.main()
