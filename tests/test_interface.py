"""The interface: its names, the files that define them, their parameters, and the package that holds them."""

import importlib
import inspect
import unittest
from pathlib import Path

PACKAGE = Path(__file__).resolve().parent.parent / "cuspfloor"

VALUES = {
    "matrices": {"IDENTITY": ((1, 0), (0, 1)), "S": ((0, -1), (1, 0)), "R": ((0, -1), (1, 1)), "T": ((1, 1), (0, 1)),
                 "F": ((1, 0), (1, 1))},
    "words": {"MAX_WORD": 2000},
    "floors": {"MAX_PLACES": 120},
}

FUNCTIONS = {
    "matrices": ["is_matrix(value)", "normal(rows)", "product(*matrices)", "inverse(matrix)", "power(matrix, exponent)",
                 "order(matrix)"],
    "words": ["is_word(value)", "word_of(matrix)", "matrix_of_word(word)", "joined(*words)", "expansion(matrix)",
              "cyclic_word(matrix)", "conjugator(one, other)"],
    "ratios": ["is_fraction(value)", "taken(matrix, fraction)", "matrix_of_fraction(fraction)", "path(fraction)"],
    "floors": ["check_floor(floor)", "is_floor(value)", "lead(floor, place, matrix)", "lead_by_word(floor, place, word)",
               "is_member(floor, matrix)", "walk(floor, *, base=0)", "numbered(floor, *, base=0)", "same_group(first, second)",
               "conjugate_base(first, second)", "relatives(floor)"],
    "makers": ["roads(floor)", "makers(floor)", "expressed(floor, matrix)", "expression_matrix(floor, expression)",
               "is_reduced(floor, value)"],
    "cycles": ["cycles(floor)", "widths(floor)", "cycle_of(floor, fraction)", "width_of(floor, fraction)",
               "taking(floor, first, second)", "fixed(floor)", "genus(floor)", "fractions_in(floor, index, *, most)"],
}

CLASSES = {
    "errors": {"MatrixError": None, "LimitError": None, "WalkError": None, "BadMatrix": None, "BadFraction": None,
               "BadWord": "index", "BadFloor": "part", "BadPlace": "value", "BadNumber": "value", "BadExpression": "index",
               "BadRule": None, "BadText": "part", "TooLong": "limit", "TooMany": "limit", "NotMember": "reached",
               "NothingToUndo": None},
}


def module_of(file):
    return importlib.import_module("cuspfloor." + file)


class Interface(unittest.TestCase):
    def test_values(self):
        for file, values in VALUES.items():
            for name, value in values.items():
                self.assertEqual(getattr(module_of(file), name), value)

    def test_functions(self):
        for file, signatures in FUNCTIONS.items():
            for signature in signatures:
                function = getattr(module_of(file), signature.partition("(")[0])
                self.assertTrue(inspect.isfunction(function))
                self.assertEqual(function.__module__, "cuspfloor." + file)
                self.assertEqual(function.__name__ + str(inspect.signature(function)), signature)

    def test_generators(self):
        for file, signatures in FUNCTIONS.items():
            for signature in signatures:
                name = signature.partition("(")[0]
                found = inspect.isgeneratorfunction(getattr(module_of(file), name))
                self.assertIs(found, name in ("path", "fractions_in"), name)

    def test_classes(self):
        for file, classes in CLASSES.items():
            for name, field in classes.items():
                found = getattr(module_of(file), name)
                self.assertTrue(inspect.isclass(found))
                self.assertEqual(found.__module__, "cuspfloor." + file)
                if field is not None:
                    self.assertEqual(str(inspect.signature(found)), "(" + field + ")")

    def test_package(self):
        self.assertTrue((PACKAGE / "__init__.py").is_file())
        self.assertFalse([path.name for path in PACKAGE.iterdir()
                          if path.suffix != ".py" and path.name != "__pycache__"])


if __name__ == "__main__":
    unittest.main()
