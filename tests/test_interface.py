"""The interface: its names, the files that define them, their parameters, and the package that holds them."""

import importlib
import inspect
import unittest
from pathlib import Path

PACKAGE = Path(__file__).resolve().parent.parent / "cuspfloor"

VALUES = {
    "matrices": {"IDENTITY": ((1, 0), (0, 1)), "S": ((0, -1), (1, 0)), "R": ((0, -1), (1, 1)), "T": ((1, 1), (0, 1)),
                 "F": ((1, 0), (1, 1))},
    "words": {"MAX_WORD": 2000},
    "floors": {"MAX_PLACES": 120},
    "moduli": {"MAX_MODULUS": 16},
}

FUNCTIONS = {
    "matrices": ["is_matrix(value)", "normal(rows)", "product(*matrices)", "inverse(matrix)", "power(matrix, exponent)",
                 "order(matrix)"],
    "words": ["is_word(value)", "word_of(matrix)", "matrix_of_word(word)", "joined(*words)", "expansion(matrix)",
              "cyclic_word(matrix)", "conjugator(one, other)"],
    "ratios": ["is_fraction(value)", "taken(matrix, fraction)", "matrix_of_fraction(fraction)", "path(fraction)"],
    "floors": ["check_floor(floor)", "is_floor(value)", "lead(floor, place, matrix)", "lead_by_word(floor, place, word)",
               "is_member(floor, matrix)", "walk(floor, *, base=0)", "numbered(floor, *, base=0)", "same_group(first, second)",
               "conjugate_base(first, second)", "relatives(floor)"],
    "makers": ["roads(floor)", "makers(floor)", "expressed(floor, matrix)", "expression_matrix(floor, expression)",
               "is_reduced(floor, value)"],
    "cycles": ["cycles(floor)", "widths(floor)", "cycle_of(floor, fraction)", "width_of(floor, fraction)",
               "taking(floor, first, second)", "fixed(floor)", "genus(floor)", "fractions_in(floor, index, *, most)"],
    "several": ["intersection(*floors)", "generated(*floors)", "missing(first, second)", "is_normal(floor)",
                "floor_count(places)",
                "all_floors(places)"],
    "moduli": ["are_alike(one, other, modulus)", "level(floor)", "outsider(floor, modulus)", "dependence(floor)",
               "is_dependence(floor, value)"],
    "texts": ["matrix_text(matrix)", "floor_text(floor)", "floor_table(floor)", "parse_matrix(text)", "parse_floor(text)"],
}

CLASSES = {
    "errors": {"MatrixError": None, "LimitError": None, "WalkError": None, "BadMatrix": None, "BadFraction": None,
               "BadWord": "index", "BadFloor": "part", "BadPlace": "value", "BadNumber": "value", "BadExpression": "index",
               "BadRule": None, "BadText": "part", "TooLong": "limit", "TooMany": "limit", "NotMember": "reached",
               "NothingToUndo": None},
}

# Of each other class: what it is constructed with, its base class, and what stands in its own body.
OBJECTS = {
    "rules": {
        "Rule": ("()", "object", {"contains(self, matrix)": "method", "standard_floor(self)": "method",
                                  "in_all(matrix, *rules)": "static"}),
        "LevelZero": ("(level)", "Rule", {"level": "property", "contains(self, matrix)": "method", "size(level)": "class",
                                          "levels_with(matrix, *, most=60)": "class"}),
        "LevelOne": ("(level)", "LevelZero", {"contains(self, matrix)": "method", "size(level)": "class"}),
        "LevelFull": ("(level)", "LevelOne", {"contains(self, matrix)": "method", "size(level)": "class"}),
        "Common": ("(*rules)", "Rule", {"contains(self, matrix)": "method"}),
        "Conjugated": ("(rule, matrix)", "Rule", {"contains(self, matrix)": "method"})},
    "turns": {
        "Turn": ("(matrix)", "object", {"rows": "property", "of_word(word)": "class", "raised(self, exponent)": "method",
                                        "__mul__(self, other)": "method", "__invert__(self)": "method",
                                        "__eq__(self, other)": "method",
                                        "__bool__(self)": "method", "__str__(self)": "method",
                                        "__call__(self, fraction)": "method"})},
    "groups": {
        "Group": ("(floor)", "object", {"floor": "property", "of_rule(rule)": "class", "__contains__(self, x)": "method",
                                        "__len__(self)": "method", "__eq__(self, other)": "method",
                                        "__and__(self, other)": "method",
                                        "__or__(self, other)": "method", "is_within(self, group)": "method",
                                        "moved(self, matrix)": "method"})},
    "walkers": {
        "Walker": ("(floor, *, place=0)", "object", {"floor": "property", "total": "property", "place": "property",
                                                     "move_to(self, place)": "method", "go(self, *matrices)": "method",
                                                     "letters(self, word)": "method", "rehearse(self, *matrices)": "method"}),
        "Tracker": ("(floor, *, place=0)", "Walker", {"go(self, *matrices)": "method", "history": "property",
                                                      "undo(self, *, count=1)": "method"})},
}


def module_of(file):
    return importlib.import_module("cuspfloor." + file)


class Interface(unittest.TestCase):
    def test_values(self):
        for file, values in VALUES.items():
            for name, value in values.items():
                self.assertEqual(getattr(module_of(file), name), value)

    def test_functions(self):
        for file, signatures in FUNCTIONS.items():
            for signature in signatures:
                function = getattr(module_of(file), signature.partition("(")[0])
                self.assertTrue(inspect.isfunction(function))
                self.assertEqual(function.__module__, "cuspfloor." + file)
                self.assertEqual(function.__name__ + str(inspect.signature(function)), signature)

    def test_generators(self):
        for file, signatures in FUNCTIONS.items():
            for signature in signatures:
                name = signature.partition("(")[0]
                found = inspect.isgeneratorfunction(getattr(module_of(file), name))
                self.assertIs(found, name in ("path", "fractions_in", "all_floors"), name)

    def test_classes(self):
        for file, classes in CLASSES.items():
            for name, field in classes.items():
                found = getattr(module_of(file), name)
                self.assertTrue(inspect.isclass(found))
                self.assertEqual(found.__module__, "cuspfloor." + file)
                if field is not None:
                    self.assertEqual(str(inspect.signature(found)), "(" + field + ")")

    def test_objects(self):
        kinds = {"static": staticmethod, "class": classmethod, "property": property, "method": type(module_of)}
        for file, classes in OBJECTS.items():
            for name, (signature, base, own) in classes.items():
                found = getattr(module_of(file), name)
                self.assertTrue(inspect.isclass(found))
                self.assertEqual(found.__module__, "cuspfloor." + file)
                self.assertEqual(str(inspect.signature(found)), signature)
                self.assertEqual([above.__name__ for above in found.__bases__], [base])
                for method, kind in own.items():
                    label = method.partition("(")[0]
                    self.assertIs(type(found.__dict__[label]), kinds[kind], (name, label))
                    if kind != "property":
                        self.assertEqual(label + str(inspect.signature(getattr(found, label))), method)
        self.assertEqual(module_of("turns").Turn.__dict__["MOST_EXPONENT"], 200)
        self.assertTrue(inspect.isgeneratorfunction(module_of("walkers").Walker.letters))
        self.assertIsNotNone(module_of("walkers").Walker.place.fset)

    def test_files(self):
        listed = {file: set(names) for file, names in VALUES.items()}
        for table in (FUNCTIONS, CLASSES, OBJECTS):
            for file, names in table.items():
                listed.setdefault(file, set()).update(name.partition("(")[0] for name in names)
        self.assertEqual(sorted(listed), sorted(path.stem for path in PACKAGE.glob("*.py") if path.stem != "__init__"))

    def test_package(self):
        self.assertTrue((PACKAGE / "__init__.py").is_file())
        self.assertFalse([path.name for path in PACKAGE.iterdir()
                          if path.suffix != ".py" and path.name != "__pycache__"])


if __name__ == "__main__":
    unittest.main()
