"""Promises [2] to [4] for fractions, floors, makers and cycles: the order of the checks, names, nothing modified."""

import copy
import inspect
import unittest
from itertools import permutations, product

from cuspfloor import cycles, floors, makers, ratios
from cuspfloor.errors import BadExpression, BadFloor, BadFraction, BadMatrix, BadNumber, BadPlace, BadWord
from some_floors import EVEN
from support import F, T

OTHER = ((0, 2, 1), (1, 2, 0))

# For each kind of parameter: valid arguments; and wrong ones, each with its error and the field.
KINDS = {
    "floor": ([EVEN, OTHER], [(((0, 1), (0, 1)), BadFloor, ("part", "connected")), (((0, 1), (1, 0)), BadFloor, ("part", "r")),
                              (((1, 1), (1, 0)), BadFloor, ("part", "s")), ([(0,), (0,)], BadFloor, ("part", "form")),
                              (None, BadFloor, ("part", "form"))]),
    "matrix": ([T, ((3, 1), (2, 1))], [(((1, 2), (3, 4)), BadMatrix, None), ([[1, 0], [0, 1]], BadMatrix, None), (5, BadMatrix, None)]),
    "fraction": ([(1, 0), (3, 2)], [((2, 4), BadFraction, None), ([1, 2], BadFraction, None), ("1/2", BadFraction, None)]),
    "word": (["", "SRS"], [("SS", BadWord, ("index", 1)), ("SRx", BadWord, ("index", 2)), (["S"], BadWord, ("index", None))]),
    "place": ([0, 2], [(3, BadPlace, ("value", 3)), (-1, BadPlace, ("value", -1)), (True, BadPlace, ("value", True))]),
    "expression": ([(), ((0, 1), (1, 1))], [([(0, 1)], BadExpression, ("index", None)), (((0, 1), [0, 1]), BadExpression, ("index", 1)),
                                             (((0, 0),), BadExpression, ("index", 0))]),
    "index": ([0, 1], [(2, BadNumber, ("value", 2)), (None, BadNumber, ("value", None)), (True, BadNumber, ("value", True))]),
    "most": ([0, 7], [(-1, BadNumber, ("value", -1)), (1001, BadNumber, ("value", 1001)), ("3", BadNumber, ("value", "3"))]),
    "value": ([(), (1, 2), EVEN, ((0, 1),), [[]], {"a": [1]}, [(0, 1)]], []),
}

# The functions, each with the kinds of its parameters, in the order in which they are checked.
CALLS = {
    ratios.is_fraction: {"value": "value"},
    ratios.taken: {"matrix": "matrix", "fraction": "fraction"},
    ratios.matrix_of_fraction: {"fraction": "fraction"},
    ratios.path: {"fraction": "fraction"},
    floors.check_floor: {"floor": "floor"},
    floors.is_floor: {"value": "value"},
    floors.lead: {"floor": "floor", "place": "place", "matrix": "matrix"},
    floors.lead_by_word: {"floor": "floor", "place": "place", "word": "word"},
    floors.is_member: {"floor": "floor", "matrix": "matrix"},
    floors.walk: {"floor": "floor", "base": "place"},
    floors.numbered: {"floor": "floor", "base": "place"},
    floors.same_group: {"first": "floor", "second": "floor"},
    floors.conjugate_base: {"first": "floor", "second": "floor"},
    floors.relatives: {"floor": "floor"},
    makers.roads: {"floor": "floor"},
    makers.makers: {"floor": "floor"},
    makers.expressed: {"floor": "floor", "matrix": "matrix"},
    makers.expression_matrix: {"floor": "floor", "expression": "expression"},
    makers.is_reduced: {"floor": "floor", "value": "value"},
    cycles.cycles: {"floor": "floor"},
    cycles.widths: {"floor": "floor"},
    cycles.cycle_of: {"floor": "floor", "fraction": "fraction"},
    cycles.width_of: {"floor": "floor", "fraction": "fraction"},
    cycles.taking: {"floor": "floor", "first": "fraction", "second": "fraction"},
    cycles.fixed: {"floor": "floor"},
    cycles.genus: {"floor": "floor"},
    cycles.fractions_in: {"floor": "floor", "index": "index", "most": "most"},
}


def called(function, given):
    """Call a function by names, and take all items of a generator."""
    result = function(**given)
    return list(result) if inspect.isgenerator(result) else result


def choices(kinds, only_valid):
    """All choices of an argument for each parameter, each with the first error and its field, or None."""
    rows = []
    for kind in kinds.values():
        valid, wrong = KINDS[kind]
        rows.append([(value, None, None) for value in valid] + ([] if only_valid else wrong))
    for chosen in product(*rows):
        given = {name: value for name, (value, _, _) in zip(kinds, chosen)}
        first = next(((error, field) for _, error, field in chosen if error is not None), None)
        yield given, first


class Order(unittest.TestCase):
    def test_all_functions_are_here(self):
        for module, names in [(ratios, 4), (floors, 10), (makers, 5), (cycles, 8)]:
            self.assertEqual(len([function for function in CALLS if function.__module__ == module.__name__]), names)
        for function, kinds in CALLS.items():
            self.assertEqual(list(inspect.signature(function).parameters), list(kinds))

    def test_first_wrong_argument_counts(self):
        for function, kinds in CALLS.items():
            for given, first in choices(kinds, False):
                if first is None:
                    continue
                error, field = first
                for order in permutations(given):
                    with self.assertRaises(error) as caught:
                        called(function, {name: given[name] for name in order})
                    self.assertIs(type(caught.exception), error, (function, given))
                    if field is not None:
                        self.assertEqual(getattr(caught.exception, field[0]), field[1], (function, given))
                        self.assertIs(type(getattr(caught.exception, field[0])), type(field[1]))


class Calls(unittest.TestCase):
    def results(self, function, given):
        """The result, or the error that a valid argument may still have: a matrix that is not a member."""
        try:
            return called(function, given)
        except LookupError as error:
            return type(error), error.reached

    def test_by_names_in_each_order(self):
        for function, kinds in CALLS.items():
            for given, _ in choices(kinds, True):
                expected = self.results(function, given)
                for order in permutations(given):
                    self.assertEqual(self.results(function, {name: given[name] for name in order}), expected)

    def test_by_position(self):
        only_by_name = {"base", "most"}
        for function, kinds in CALLS.items():
            for given, _ in choices(kinds, True):
                expected = self.results(function, given)
                for count in range(len(given) + 1):
                    front = list(given)[:count]
                    if only_by_name.isdisjoint(front):
                        try:
                            result = function(*[given[name] for name in front],
                                              **{name: value for name, value in given.items() if name not in front})
                            result = list(result) if inspect.isgenerator(result) else result
                        except LookupError as error:
                            result = type(error), error.reached
                        self.assertEqual(result, expected)

    def test_equal_calls_have_equal_results(self):
        for function, kinds in CALLS.items():
            for given, _ in choices(kinds, True):
                self.assertEqual(self.results(function, given), self.results(function, copy.deepcopy(given)))

    def test_no_argument_is_modified(self):
        for function, kinds in CALLS.items():
            for given, first in choices(kinds, False):
                before = copy.deepcopy(given)
                try:
                    self.results(function, given)
                except ValueError:
                    self.assertIsNotNone(first)
                self.assertEqual(given, before)

    def test_lists_stay_as_they_are(self):
        value = [[2, 1, 0], [1, 2, 0]]
        for function in (floors.is_floor, ratios.is_fraction):
            self.assertIs(function(value), False)
        for function in (floors.walk, floors.numbered, makers.roads, makers.makers, cycles.cycles, cycles.genus):
            with self.assertRaises(BadFloor):
                function(value)
        self.assertEqual(value, [[2, 1, 0], [1, 2, 0]])
        pairs = [[0, 1], [1, 1]]
        self.assertIs(makers.is_reduced(EVEN, pairs), False)
        with self.assertRaises(BadExpression):
            makers.expression_matrix(EVEN, (pairs[0], pairs[1]))
        self.assertEqual(pairs, [[0, 1], [1, 1]])

    def test_results_are_exact_integers(self):
        self.assertEqual([type(x) for x in (floors.lead(EVEN, 0, F), cycles.genus(EVEN), cycles.cycle_of(EVEN, (1, 2)),
                                            cycles.width_of(EVEN, (1, 2)), floors.conjugate_base(EVEN, OTHER))], [int] * 5)


class Generators(unittest.TestCase):
    def test_errors_only_when_the_first_item_is_requested(self):
        for function, kinds in CALLS.items():
            if inspect.isgeneratorfunction(function):
                for given, first in choices(kinds, False):
                    found = function(**given)
                    if first is not None:
                        with self.assertRaises(first[0]):
                            next(found)


if __name__ == "__main__":
    unittest.main()
