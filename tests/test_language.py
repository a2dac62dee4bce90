"""The rules of LANGUAGE.md that a short program can check, for every file of the package."""

import ast
import builtins
import io
import re
import tokenize
import unittest
from pathlib import Path

PACKAGE = Path(__file__).resolve().parent.parent / "cuspfloor"

LIBRARY = {"heapq": {"heappush", "heappop", "heapify", "heapreplace", "heappushpop"},
           "math": {"gcd", "lcm", "isqrt", "comb", "perm", "factorial"},
           "itertools": {"product", "combinations", "permutations", "chain", "accumulate", "pairwise", "islice",
                         "zip_longest"},
           "collections": {"defaultdict", "deque"}, "__future__": {"annotations"}}

BUILTINS = set("""len range enumerate zip min max sum abs sorted reversed int str bool bytes list tuple dict set frozenset
    isinstance ord repr any all divmod pow getattr hasattr setattr iter next map type super property staticmethod classmethod
    Exception ValueError TypeError KeyError IndexError LookupError ZeroDivisionError ArithmeticError OverflowError
    RuntimeError NotImplementedError AttributeError StopIteration NotImplemented""".split())

METHODS = set("""append clear copy count endswith extend find get index insert isalnum isalpha isdigit islower isspace isupper
    items join keys ljust lower lstrip partition pop remove replace reverse rfind rjust rpartition rsplit rstrip setdefault
    split splitlines startswith strip update upper values zfill bit_length title capitalize swapcase casefold center
    expandtabs removeprefix removesuffix rindex isascii isdecimal isnumeric istitle isidentifier isprintable translate
    sort add discard appendleft popleft extendleft rotate from_iterable""".split())

BARRED = re.compile(r"\b(register|mro|elements|open|input|law|version_info|with_traceback|add_note|typing|enum|Enum|IntEnum"
                    r"|StrEnum|Flag|Generic|Protocol|ABC|ABCMeta|namedtuple|NamedTuple|TypedDict|abstractmethod)\b"
                    r"|dataclass|overload|contextmanager|_wall|_WallAttr")

FILES = {path.name: path.read_text(encoding="utf-8") for path in sorted(PACKAGE.glob("*.py"))}


def nodes(kinds):
    """All nodes of these kinds, with the file and the line for the message."""
    for name, text in FILES.items():
        for node in ast.walk(ast.parse(text)):
            if isinstance(node, kinds):
                yield f"{name}:{getattr(node, 'lineno', 0)}", node


class Files(unittest.TestCase):
    def test_there_are_files(self):
        self.assertIn("__init__.py", FILES)
        self.assertGreater(len(FILES), 1)

    def test_names_and_characters(self):
        for name, text in FILES.items():
            self.assertRegex(name, r"^([a-z][a-z0-9_]*|__init__|__main__)\.py$")
            self.assertRegex(text, r"\A[ -~\n]*\Z", name)

    def test_sizes(self):
        for name, text in FILES.items():
            self.assertLessEqual(len(text.splitlines()), 399, name)
            self.assertLessEqual(max(map(len, text.splitlines())), 120, name)
        for place, node in nodes(ast.FunctionDef):
            self.assertLessEqual(node.end_lineno - node.lineno + 1, 40, place)

    def test_words_that_are_barred(self):
        for name, text in FILES.items():
            for token in tokenize.generate_tokens(io.StringIO(text).readline):
                if token.type == tokenize.NAME:
                    self.assertIsNone(BARRED.search(token.string), (name, token))


class Statements(unittest.TestCase):
    def test_module_level(self):
        for name, text in FILES.items():
            for at, node in enumerate(ast.parse(text).body):
                docstring = at == 0 and isinstance(node, ast.Expr) and isinstance(node.value, ast.Constant)
                kinds = (ast.ImportFrom, ast.FunctionDef, ast.ClassDef, ast.Assign)
                self.assertTrue(docstring or isinstance(node, kinds), (name, node.lineno))

    def test_imports(self):
        for place, node in nodes((ast.Import, ast.ImportFrom)):
            self.assertIsInstance(node, ast.ImportFrom, place)
            self.assertEqual(node.level, 0, place)
            names = {alias.name for alias in node.names}
            own = node.module.startswith("cuspfloor.") and "*" not in names
            self.assertTrue(own or names <= LIBRARY.get(node.module, set()), place)

    def test_imports_are_used(self):
        for name, text in FILES.items():
            tree = ast.parse(text)
            used = {node.id for node in ast.walk(tree) if isinstance(node, ast.Name)}
            imported = {alias.name for node in tree.body if isinstance(node, ast.ImportFrom) for alias in node.names}
            self.assertEqual(sorted(imported - used), [], name)

    def test_kinds_that_are_not_allowed(self):
        kinds = (ast.AsyncFunctionDef, ast.AsyncFor, ast.AsyncWith, ast.Await, ast.Div, ast.MatMult, ast.SetComp, ast.Global)
        self.assertEqual([place for place, _ in nodes(kinds)], [])

    def test_no_floats(self):
        for place, node in nodes(ast.Constant):
            self.assertNotIsInstance(node.value, (float, complex), place)

    def test_is_only_with_none_true_false(self):
        for place, node in nodes(ast.Compare):
            if any(isinstance(sign, (ast.Is, ast.IsNot)) for sign in node.ops):
                last = node.comparators[-1]
                self.assertTrue(isinstance(last, ast.Constant) and last.value in (None, True, False), place)

    def test_decorators(self):
        for place, node in nodes((ast.FunctionDef, ast.ClassDef)):
            for decorator in node.decorator_list:
                name = decorator.attr if isinstance(decorator, ast.Attribute) else decorator.id
                self.assertIn(name, ("property", "setter", "staticmethod", "classmethod"), place)


class Classes(unittest.TestCase):
    """The package has classes with operators, properties, __eq__ and __len__, which narrows what the rest may do."""

    SIGNS = {"__init__", "__eq__", "__str__", "__len__", "__call__", "__mul__", "__and__", "__or__", "__invert__", "__bool__",
             "__contains__"}

    def test_methods_with_double_underscores(self):
        for place, node in nodes(ast.ClassDef):
            for method in node.body:
                if isinstance(method, ast.FunctionDef) and method.name.startswith("__"):
                    self.assertIn(method.name, self.SIGNS, place)
                    self.assertEqual(method.decorator_list, [], place)

    def test_what_len_str_and_bool_return(self):
        called = {"__len__": "len", "__str__": "str", "__bool__": "bool"}
        for place, node in nodes(ast.FunctionDef):
            if node.name in called:
                self.assertIsInstance(node.body[-1], ast.Return, place)
                for inner in ast.walk(node):
                    if isinstance(inner, ast.Return):
                        self.assertEqual(inner.value.func.id, called[node.name], place)

    def test_attributes_are_assigned_through_self(self):
        for place, node in nodes(ast.Attribute):
            if isinstance(node.ctx, ast.Store):
                self.assertEqual(node.value.id, "self", place)

    def test_no_generator_expressions_and_no_handlers(self):
        kinds = (ast.GeneratorExp, ast.Try, ast.Lambda, ast.Set, ast.AugAssign, ast.Delete, ast.NamedExpr)
        self.assertEqual([place for place, _ in nodes(kinds)], [])

    def test_nothing_has_the_name_of_a_generator(self):
        names = [node.name for _, node in nodes(ast.FunctionDef)]
        yielding = {node.name for _, node in nodes(ast.FunctionDef)
                    if any(isinstance(inner, (ast.Yield, ast.YieldFrom)) for inner in ast.walk(node))}
        self.assertEqual(sorted(yielding), ["all_floors", "fractions_in", "letters", "path"])
        self.assertEqual(sorted(name for name in names if name in yielding), sorted(yielding))

    def test_properties_have_names_of_their_own(self):
        properties, others = set(), set()
        for _, node in nodes(ast.ClassDef):
            for method in node.body:
                if isinstance(method, ast.FunctionDef):
                    marks = {ast.unparse(mark) for mark in method.decorator_list}
                    (properties if marks & {"property", "place.setter"} else others).add(method.name)
        stored = {node.attr for _, node in nodes(ast.Attribute) if isinstance(node.ctx, ast.Store)}
        self.assertEqual(properties, {"rows", "floor", "total", "place", "history", "level"})
        self.assertTrue(properties.isdisjoint(others))
        self.assertTrue((properties - {"place"}).isdisjoint(stored))

    def test_nothing_is_sorted_in_place(self):
        for place, node in nodes(ast.Attribute):
            self.assertNotEqual(node.attr, "sort", place)

    def test_parameters_and_variables_are_no_imports_or_classes_of_their_file(self):
        for name, text in FILES.items():
            tree = ast.parse(text)
            bound = {alias.name for node in tree.body if isinstance(node, ast.ImportFrom) for alias in node.names}
            bound |= {node.name for node in tree.body if isinstance(node, ast.ClassDef)}
            for function in ast.walk(tree):
                if isinstance(function, ast.FunctionDef):
                    used = {node.arg for node in ast.walk(function) if isinstance(node, ast.arg)}
                    used |= {node.id for node in ast.walk(function) if isinstance(node, ast.Name)
                             and isinstance(node.ctx, ast.Store)}
                    self.assertEqual(sorted(used & bound), [], (name, function.name))


class Cycles(unittest.TestCase):
    def test_no_two_files_import_from_each_other(self):
        above = {name[:-3]: {node.module.partition(".")[2] for node in ast.parse(text).body
                             if isinstance(node, ast.ImportFrom) and node.module.startswith("cuspfloor.")} for name, text in FILES.items()}
        while above:
            free = [name for name, needed in above.items() if needed.isdisjoint(above)]
            self.assertNotEqual(free, [])
            above = {name: needed for name, needed in above.items() if name not in free}


class Names(unittest.TestCase):
    def test_builtins(self):
        for place, node in nodes(ast.Name):
            if node.id in vars(builtins):
                self.assertIn(node.id, BUILTINS, place)
                self.assertIsInstance(node.ctx, ast.Load, place)

    def test_own_names_are_no_builtins(self):
        for place, node in nodes((ast.FunctionDef, ast.ClassDef, ast.arg)):
            name = node.arg if isinstance(node, ast.arg) else node.name
            self.assertNotIn(name, vars(builtins), place)

    def test_names_bound_once_in_a_file(self):
        for name, text in FILES.items():
            bound = []
            for node in ast.parse(text).body:
                if isinstance(node, ast.ImportFrom):
                    bound.extend(alias.name for alias in node.names)
                elif isinstance(node, ast.Assign):
                    bound.extend(target.id for target in node.targets)
                elif isinstance(node, (ast.FunctionDef, ast.ClassDef)):
                    bound.append(node.name)
            self.assertEqual(sorted(set(bound)), sorted(bound), name)

    def test_methods(self):
        own = {node.name for _, node in nodes(ast.FunctionDef)}
        for place, node in nodes(ast.Call):
            if isinstance(node.func, ast.Attribute):
                self.assertIn(node.func.attr, METHODS | own | {"__init__"}, place)


if __name__ == "__main__":
    unittest.main()
