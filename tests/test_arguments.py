"""Promises [2] to [4] and [31] over the whole program: the order of the checks, names, nothing modified, the errors."""

import copy
import inspect
import unittest
from itertools import permutations, product

from cuspfloor import cycles, errors, floors, makers, matrices, moduli, ratios, several, texts, words
from cuspfloor.errors import (BadExpression, BadFloor, BadFraction, BadMatrix, BadNumber, BadPlace, BadRule, BadText,
                              BadWord, LimitError,
                              MatrixError, NotMember, NothingToUndo, TooLong, TooMany, WalkError)
from cuspfloor.groups import Group
from cuspfloor.rules import Common, Conjugated, LevelFull, LevelOne, LevelZero, Rule
from cuspfloor.turns import Turn
from cuspfloor.walkers import Tracker, Walker
from some_floors import EVEN, ODD, WITH_121, zero_floor
from support import F, R, S, T

OTHER = ((0, 2, 1), (1, 2, 0))


def wrong_numbers(*values):
    """These values, each with its error and the field."""
    return [(value, BadNumber, ("value", value)) for value in values]


MATRIX = ([T, ((3, 1), (2, 1))], [(((1, 2), (3, 4)), BadMatrix, None), ([[1, 0], [0, 1]], BadMatrix, None),
                                  (5, BadMatrix, None)])

# For each kind of parameter: valid arguments; and wrong ones, each with its error and the field.
KINDS = {
    "matrix": MATRIX,
    "rows": ([((0, 1), (-1, 0)), T], [(((1, 2), (3, 4)), BadMatrix, None), ([[1, 0], [0, 1]], BadMatrix, None)]),
    "floor": ([EVEN, OTHER], [(((0, 1), (0, 1)), BadFloor, ("part", "connected")), (((0, 1), (1, 0)), BadFloor, ("part", "r")),
                              (((1, 1), (1, 0)), BadFloor, ("part", "s")), ([(0,), (0,)], BadFloor, ("part", "form")),
                              (None, BadFloor, ("part", "form"))]),
    "fraction": ([(1, 0), (3, 2)], [((2, 4), BadFraction, None), ([1, 2], BadFraction, None), ("1/2", BadFraction, None)]),
    "word": (["", "SRS"], [("SS", BadWord, ("index", 1)), ("SRx", BadWord, ("index", 2)), (["S"], BadWord, ("index", None))]),
    "place": ([0, 2], [(3, BadPlace, ("value", 3)), (-1, BadPlace, ("value", -1)), (True, BadPlace, ("value", True))]),
    "expression": ([(), ((0, 1), (1, 1))], [([(0, 1)], BadExpression, ("index", None)),
                                            (((0, 1), [0, 1]), BadExpression, ("index", 1)),
                                            (((0, 0),), BadExpression, ("index", 0))]),
    "exponent": ([0, -200, 3], wrong_numbers(201, True, "2", None)),
    "index": ([0, 1], wrong_numbers(2, None, True)),
    "most": ([0, 7], wrong_numbers(-1, 1001, "3")),
    "places": ([1, 4, 6], wrong_numbers(0, 61, True, "3")),
    "modulus": ([1, 2, 16], wrong_numbers(0, -2, True, None)),
    "small modulus": ([1, 2, 16], wrong_numbers(0, 17, True, None)),
    "level": ([1, 5], wrong_numbers(0, 1001, True, "5")),
    "count": ([0, 1, 2, 5], wrong_numbers(-1, True, "1", None)),
    "rule": ([Rule(), LevelZero(2)], [(LevelZero, BadRule, None), (None, BadRule, None), (EVEN, BadRule, None)]),
    "group": ([Group(EVEN), Group(OTHER)], []),
    "text of a matrix": (["1 1 0 1", "0 -1 1 0"], [("1 1 0", BadText, ("part", 4)), (None, BadText, ("part", 0)),
                                                   ("", BadText, ("part", 1))]),
    "text of a floor": (["0 / 0", "2 1 0 / 1 2 0"],
                        [("0 / 1", BadText, ("part", 3)), (["0"], BadText, ("part", 0)), ("", BadText, ("part", 1))]),
    "value": ([(), (1, 2), EVEN, ((0, 1),), [[]], {"a": [1]}, [(0, 1)], T, "SR", ("level", 2)], []),
}

# The functions, each with the kinds of its parameters, in the order in which they are checked.
FUNCTIONS = {
    matrices: {
        "is_matrix": {"value": "value"}, "normal": {"rows": "rows"}, "inverse": {"matrix": "matrix"},
        "power": {"matrix": "matrix", "exponent": "exponent"}, "order": {"matrix": "matrix"}},
    words: {
        "is_word": {"value": "value"}, "word_of": {"matrix": "matrix"}, "matrix_of_word": {"word": "word"},
        "expansion": {"matrix": "matrix"}, "cyclic_word": {"matrix": "matrix"},
        "conjugator": {"one": "matrix", "other": "matrix"}},
    ratios: {
        "is_fraction": {"value": "value"}, "taken": {"matrix": "matrix", "fraction": "fraction"},
        "matrix_of_fraction": {"fraction": "fraction"}, "path": {"fraction": "fraction"}},
    floors: {
        "check_floor": {"floor": "floor"}, "is_floor": {"value": "value"}, "lead": {"floor": "floor", "place": "place",
                                                                                    "matrix": "matrix"},
        "lead_by_word": {"floor": "floor", "place": "place", "word": "word"},
        "is_member": {"floor": "floor", "matrix": "matrix"},
        "walk": {"floor": "floor", "base": "place"}, "numbered": {"floor": "floor", "base": "place"},
        "same_group": {"first": "floor", "second": "floor"}, "conjugate_base": {"first": "floor", "second": "floor"},
        "relatives": {"floor": "floor"}},
    makers: {
        "roads": {"floor": "floor"}, "makers": {"floor": "floor"}, "expressed": {"floor": "floor", "matrix": "matrix"},
        "expression_matrix": {"floor": "floor", "expression": "expression"},
        "is_reduced": {"floor": "floor", "value": "value"}},
    cycles: {
        "cycles": {"floor": "floor"}, "widths": {"floor": "floor"}, "cycle_of": {"floor": "floor", "fraction": "fraction"},
        "width_of": {"floor": "floor", "fraction": "fraction"},
        "taking": {"floor": "floor", "first": "fraction", "second": "fraction"},
        "fixed": {"floor": "floor"}, "genus": {"floor": "floor"},
        "fractions_in": {"floor": "floor", "index": "index", "most": "most"}},
    several: {
        "missing": {"first": "floor", "second": "floor"}, "is_normal": {"floor": "floor"}, "floor_count": {"places": "places"},
        "all_floors": {"places": "places"}},
    moduli: {
        "are_alike": {"one": "matrix", "other": "matrix", "modulus": "modulus"}, "level": {"floor": "floor"},
        "outsider": {"floor": "floor", "modulus": "small modulus"}, "dependence": {"floor": "floor"},
        "is_dependence": {"floor": "floor", "value": "value"}},
    texts: {
        "matrix_text": {"matrix": "matrix"}, "floor_text": {"floor": "floor"}, "floor_table": {"floor": "floor"},
        "parse_matrix": {"text": "text of a matrix"}, "parse_floor": {"text": "text of a floor"}},
}


def made(call):
    """A tracker that has gone by some calls."""
    tracker = call(EVEN)
    tracker.go(T, F)
    tracker.go()
    return tracker


# The classes and their methods: what gives something to call anew each time, and the kinds of its parameters.
METHODS = {
    "Rule.contains": (lambda: Rule().contains, {"matrix": "matrix"}),
    "Rule.in_all": (lambda: Rule.in_all, {"matrix": "matrix"}),
    "LevelZero": (lambda: LevelZero, {"level": "level"}),
    "LevelZero.contains": (lambda: LevelZero(2).contains, {"matrix": "matrix"}),
    "LevelZero.size": (lambda: LevelZero.size, {"level": "level"}),
    "LevelZero.levels_with": (lambda: LevelZero.levels_with, {"matrix": "matrix", "most": "level"}),
    "LevelOne": (lambda: LevelOne, {"level": "level"}),
    "LevelOne.contains": (lambda: LevelOne(2).contains, {"matrix": "matrix"}),
    "LevelOne.size": (lambda: LevelOne.size, {"level": "level"}),
    "LevelOne.levels_with": (lambda: LevelOne.levels_with, {"matrix": "matrix", "most": "level"}),
    "LevelFull": (lambda: LevelFull, {"level": "level"}),
    "LevelFull.contains": (lambda: LevelFull(2).contains, {"matrix": "matrix"}),
    "LevelFull.size": (lambda: LevelFull.size, {"level": "level"}),
    "LevelFull.levels_with": (lambda: LevelFull.levels_with, {"matrix": "matrix", "most": "level"}),
    "Common.contains": (lambda: Common(LevelZero(2)).contains, {"matrix": "matrix"}),
    "Conjugated": (lambda: Conjugated, {"rule": "rule", "matrix": "matrix"}),
    "Conjugated.contains": (lambda: Conjugated(LevelZero(2), R).contains, {"matrix": "matrix"}),
    "Turn": (lambda: Turn, {"matrix": "matrix"}),
    "Turn.of_word": (lambda: Turn.of_word, {"word": "word"}),
    "Turn.raised": (lambda: Turn(F).raised, {"exponent": "exponent"}),
    "Turn of a fraction": (lambda: Turn(F), {"fraction": "fraction"}),
    "Group": (lambda: Group, {"floor": "floor"}),
    "Group.of_rule": (lambda: Group.of_rule, {"rule": "rule"}),
    "Group.is_within": (lambda: Group(EVEN).is_within, {"group": "group"}),
    "Group.moved": (lambda: Group(EVEN).moved, {"matrix": "matrix"}),
    "Walker": (lambda: Walker, {"floor": "floor", "place": "place"}),
    "Walker.move_to": (lambda: Walker(EVEN).move_to, {"place": "place"}),
    "Walker.letters": (lambda: Walker(EVEN).letters, {"word": "word"}),
    "Tracker": (lambda: Tracker, {"floor": "floor", "place": "place"}),
    "Tracker.move_to": (lambda: made(Tracker).move_to, {"place": "place"}),
    "Tracker.letters": (lambda: made(Tracker).letters, {"word": "word"}),
    "Tracker.undo": (lambda: made(Tracker).undo, {"count": "count"}),
}

# What collects any number of arguments: what stands before them, and the kind of each of them.
COLLECTING = {
    "product": (lambda: matrices.product, [], "matrix"),
    "joined": (lambda: words.joined, [], "word"),
    "intersection": (lambda: several.intersection, [], "floor"),
    "generated": (lambda: several.generated, [], "floor"),
    "Rule.in_all": (lambda: Rule.in_all, ["matrix"], "rule"),
    "Common": (lambda: Common, [], "rule"),
    "Walker.go": (lambda: Walker(EVEN).go, [], "matrix"),
    "Walker.rehearse": (lambda: Walker(EVEN).rehearse, [], "matrix"),
    "Tracker.go": (lambda: Tracker(EVEN).go, [], "matrix"),
    "Tracker.rehearse": (lambda: Tracker(EVEN).rehearse, [], "matrix"),
}

ONLY_BY_NAME = {"walk": {"base"}, "numbered": {"base"}, "fractions_in": {"most"}, "Walker": {"place"}, "Tracker": {"place"},
                "LevelZero.levels_with": {"most"}, "LevelOne.levels_with": {"most"}, "LevelFull.levels_with": {"most"},
                "Tracker.undo": {"count"}}

CALLS = dict(METHODS)
for module, table in FUNCTIONS.items():
    for label, kinds in table.items():
        CALLS[label] = ((lambda module, label: lambda: getattr(module, label))(module, label), kinds)


def told(value):
    """What a value stands for, so that it can be compared."""
    if inspect.isgenerator(value):
        return list(value)
    if isinstance(value, Turn):
        return "turn", value.rows
    if isinstance(value, Group):
        return "group", value.floor
    if isinstance(value, Rule):
        return "rule", type(value).__name__, value.standard_floor()
    if isinstance(value, Walker):
        return "walker", value.floor, value.place, value.total
    return value


def told_all(given):
    """What arguments stand for."""
    return {name: told(value) for name, value in given.items()}


def choices(kinds, only_valid):
    """All choices of an argument for each parameter, each with the first error and its field, or None."""
    rows = []
    for kind in kinds.values():
        valid, wrong = KINDS[kind]
        rows.append([(value, None, None) for value in valid] + ([] if only_valid else wrong))
    for chosen in product(*rows):
        given = {name: value for name, (value, _, _) in zip(kinds, chosen)}
        first = next(((error, field) for _, error, field in chosen if error is not None), None)
        yield given, first


def outcome(make, *front, **given):
    """What a call gives, or the error that valid arguments may still have."""
    try:
        return told(make()(*front, **given))
    except (LookupError, ArithmeticError) as error:
        return type(error), vars(error)
    except BadNumber as error:
        # floor_count takes more numbers of places than all_floors.
        return type(error), vars(error)


class ArgumentTest(unittest.TestCase):
    def assert_error(self, label, first, call):
        error, field = first
        with self.assertRaises(error) as caught:
            result = call()
            if inspect.isgenerator(result):
                next(result)
        self.assertIs(type(caught.exception), error, label)
        if field is not None:
            self.assertEqual(getattr(caught.exception, field[0]), field[1], label)
            self.assertIs(type(getattr(caught.exception, field[0])), type(field[1]), label)


class Order(ArgumentTest):
    def test_all_functions_are_here(self):
        collecting = {"product", "joined", "intersection", "generated"}
        for module, names in [(matrices, 6), (words, 7), (ratios, 4), (floors, 10), (makers, 5), (cycles, 8), (several, 6),
                              (moduli, 5),
                              (texts, 5)]:
            here = [name for name in list(FUNCTIONS[module]) + sorted(collecting) if hasattr(module, name) and
                    getattr(module, name).__module__ == module.__name__]
            self.assertEqual(len(here), names, module)
        for label, (make, kinds) in CALLS.items():
            if label not in ("Rule.in_all", "Turn of a fraction"):
                self.assertEqual(list(inspect.signature(make()).parameters), list(kinds), label)

    def test_first_wrong_argument_counts(self):
        for label, (make, kinds) in CALLS.items():
            for given, first in choices(kinds, False):
                if first is None:
                    continue
                for order in permutations(given):
                    self.assert_error(label, first, lambda: make()(**{name: given[name] for name in order}))

    def test_first_wrong_one_of_any_number(self):
        for label, (make, before, kind) in COLLECTING.items():
            for many in (1, 2, 3):
                kinds = dict(enumerate(before + [kind] * many))
                for given, first in choices(kinds, False):
                    if first is not None:
                        self.assert_error(label, first, lambda: make()(*given.values()))


class Calls(ArgumentTest):
    def test_by_names_in_each_order(self):
        for label, (make, kinds) in CALLS.items():
            for given, _ in choices(kinds, True):
                expected = outcome(make, **given)
                for order in permutations(given):
                    self.assertEqual(outcome(make, **{name: given[name] for name in order}), expected, label)

    def test_by_position(self):
        for label, (make, kinds) in CALLS.items():
            for given, _ in choices(kinds, True):
                expected = outcome(make, **given)
                for count in range(len(given) + 1):
                    front = list(given)[:count]
                    if ONLY_BY_NAME.get(label, set()).isdisjoint(front):
                        rest = {name: value for name, value in given.items() if name not in front}
                        self.assertEqual(outcome(make, *[given[name] for name in front], **rest), expected, label)

    def test_only_by_name(self):
        for label, names in ONLY_BY_NAME.items():
            make, kinds = CALLS[label]
            given = next(choices(kinds, True))[0]
            self.assertEqual(list(given)[-1:], list(names))
            with self.assertRaises(TypeError):
                make()(*given.values())

    def test_equal_calls_have_equal_results(self):
        for label, (make, kinds) in CALLS.items():
            for given, _ in choices(kinds, True):
                self.assertEqual(outcome(make, **given), outcome(make, **copy.deepcopy(given)), label)
        for label, (make, before, kind) in COLLECTING.items():
            for given, _ in choices(dict(enumerate(before + [kind] * 2)), True):
                self.assertEqual(outcome(make, *given.values()), outcome(make, *copy.deepcopy(given).values()), label)

    def test_no_argument_is_modified(self):
        for label, (make, kinds) in CALLS.items():
            for given, first in choices(kinds, False):
                before = copy.deepcopy(told_all(given))
                try:
                    told(make()(**given))
                except (MatrixError, LimitError, WalkError):
                    pass
                self.assertEqual(told_all(given), before, label)
        for label, (make, before, kind) in COLLECTING.items():
            for given, first in choices(dict(enumerate(before + [kind] * 2)), False):
                kept = copy.deepcopy(told_all(given))
                try:
                    told(make()(*given.values()))
                except (MatrixError, LimitError, WalkError):
                    pass
                self.assertEqual(told_all(given), kept, label)

    def test_lists_stay_as_they_are(self):
        value = [[2, 1, 0], [1, 2, 0]]
        for function in (floors.is_floor, ratios.is_fraction, matrices.is_matrix, words.is_word):
            self.assertIs(function(value), False)
        for function in (floors.walk, floors.numbered, makers.roads, makers.makers, cycles.cycles, cycles.genus,
                         several.intersection,
                         several.generated, several.is_normal, moduli.level, texts.floor_text, Group, Walker, Tracker):
            with self.assertRaises(BadFloor):
                function(value)
        self.assertEqual(value, [[2, 1, 0], [1, 2, 0]])
        pairs = [[0, 1], [1, 1]]
        self.assertIs(makers.is_reduced(EVEN, pairs), False)
        with self.assertRaises(BadExpression):
            makers.expression_matrix(EVEN, (pairs[0], pairs[1]))
        self.assertEqual(pairs, [[0, 1], [1, 1]])

    def test_results_are_exact_integers(self):
        self.assertEqual([type(x) for x in (floors.lead(EVEN, 0, F), cycles.genus(EVEN), cycles.cycle_of(EVEN, (1, 2)),
                                            cycles.width_of(EVEN, (1, 2)), floors.conjugate_base(EVEN, OTHER),
                                            several.floor_count(60),
                                            moduli.level(EVEN), LevelFull.size(1000), Walker(EVEN).go(T),
                                            len(Group(EVEN)))], [int] * 10)


class IsFunctions(unittest.TestCase):
    def test_nothing_is_raised_for_a_value(self):
        values = [None, True, 0, "", "SR", b"", (), [], {}, set(), object(), Rule, Rule(), Turn(T), Group(EVEN), ((),),
                  ((), ()), (None, None),
                  ([], []), ({}, {}), ((1, 0), None), lambda: 0, iter([]), ((True, False), (False, True)), ("level", []),
                  ("outsider", {})]
        calls = [matrices.is_matrix, words.is_word, ratios.is_fraction, floors.is_floor,
                 lambda value: makers.is_reduced(EVEN, value),
                 lambda value: moduli.is_dependence(EVEN, value), lambda value: moduli.is_dependence(ODD, value)]
        right = {1: ["", "SR"], 4: [()]}
        for at, call in enumerate(calls):
            for value in values:
                expected = any(type(value) is type(one) and value == one for one in right.get(at, []))
                if at == 1 and value == "SR":
                    expected = True
                self.assertIs(call(value), expected, (at, value))


class Generators(ArgumentTest):
    def test_errors_only_when_the_first_item_is_requested(self):
        tried = []
        for label, (make, kinds) in CALLS.items():
            if inspect.isgeneratorfunction(make()):
                tried.append(label)
                for given, first in choices(kinds, False):
                    found = make()(**given)
                    if first is not None:
                        with self.assertRaises(first[0]):
                            next(found)
        self.assertEqual(sorted(tried), ["Tracker.letters", "Walker.letters", "all_floors", "fractions_in", "path"])


class Errors(unittest.TestCase):
    def raised(self, call):
        """The error that a call raises."""
        try:
            call()
        except (ValueError, ArithmeticError, LookupError) as error:
            return error
        return None

    def test_each_class_with_its_base_class_and_its_field(self):
        great = matrices.power(((1, 200), (0, 1)), 200)
        for call, kind, base, above, fields in [
                (lambda: matrices.inverse(None), BadMatrix, MatrixError, ValueError, {}),
                (lambda: Turn(T)((2, 4)), BadFraction, MatrixError, ValueError, {}),
                (lambda: Turn.of_word("SRR"), BadWord, MatrixError, ValueError, {"index": 2}),
                (lambda: Group(((0, 1), (0, 1))), BadFloor, MatrixError, ValueError, {"part": "connected"}),
                (lambda: Walker(EVEN, place=3), BadPlace, MatrixError, ValueError, {"value": 3}),
                (lambda: LevelZero(1001), BadNumber, MatrixError, ValueError, {"value": 1001}),
                (lambda: makers.expression_matrix(EVEN, ((0, 1), (7, 1))), BadExpression, MatrixError, ValueError,
                 {"index": 1}),
                (lambda: Common(Rule(), Rule), BadRule, MatrixError, ValueError, {}),
                (lambda: texts.parse_floor("0 / 1"), BadText, MatrixError, ValueError, {"part": 3}),
                (lambda: words.word_of(great), TooLong, LimitError, ArithmeticError, {"limit": 2000}),
                (lambda: several.intersection(*WITH_121), TooMany, LimitError, ArithmeticError, {"limit": 120}),
                (lambda: Group(WITH_121[0]) & Group(WITH_121[1]), TooMany, LimitError, ArithmeticError, {"limit": 120}),
                (lambda: LevelFull(7).standard_floor(), TooMany, LimitError, ArithmeticError, {"limit": 120}),
                (lambda: moduli.dependence(zero_floor(17)), TooMany, LimitError, ArithmeticError, {"limit": 16}),
                (lambda: makers.expressed(EVEN, F), NotMember, WalkError, LookupError, {"reached": 1}),
                (lambda: Tracker(EVEN).undo(), NothingToUndo, WalkError, LookupError, {})]:
            error = self.raised(call)
            self.assertIs(type(error), kind)
            self.assertEqual(kind.__bases__, (base,))
            self.assertEqual(base.__bases__, (above,))
            self.assertEqual(vars(error), fields)
            self.assertIs(kind, getattr(errors, kind.__name__))

    def test_further_errors_come_after_the_parameters(self):
        great = matrices.power(((1, 200), (0, 1)), 200)
        for call, kind in [
                (lambda: words.conjugator(great, None), BadMatrix), (lambda: words.joined("SR" * 1000, "SR", "SS"), BadWord),
                (lambda: several.intersection(*WITH_121, None), BadFloor), (lambda: moduli.outsider(None, 0), BadFloor),
                (lambda: makers.expressed(EVEN, 5), BadMatrix), (lambda: Tracker(EVEN).undo(count=-1), BadNumber),
                (lambda: moduli.are_alike(S, None, 0), BadMatrix), (lambda: LevelZero.levels_with(None, most=0), BadMatrix),
                (lambda: Conjugated(None, None), BadRule), (lambda: Walker(None, place=9), BadFloor)]:
            self.assertIs(type(self.raised(call)), kind)


if __name__ == "__main__":
    unittest.main()
