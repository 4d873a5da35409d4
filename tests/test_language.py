"""Tests of the rules of LANGUAGE.md that can be seen file by file, over all files of the package."""

import ast
import builtins
import os
import re
import unittest

FOLDER = os.path.join(os.path.dirname(os.path.dirname(os.path.abspath(__file__))), "formatrepair")
NAMES = sorted(name for name in os.listdir(FOLDER) if name != "__pycache__")

BUILTINS = set("""
len range enumerate zip min max sum abs sorted reversed int str bool bytes list tuple dict set isinstance ord repr any
all divmod pow getattr hasattr setattr iter next map Exception ValueError TypeError KeyError IndexError LookupError
ZeroDivisionError ArithmeticError OverflowError RuntimeError NotImplementedError AttributeError StopIteration
NotImplemented property staticmethod classmethod super type
""".split())
METHODS = set("""
append clear copy count endswith extend find get index insert isalnum isalpha isdigit islower isspace isupper items
join keys ljust lower lstrip partition pop remove replace reverse rfind rjust rpartition rsplit rstrip setdefault split
splitlines startswith strip update upper values zfill bit_length title capitalize swapcase casefold center expandtabs
removeprefix removesuffix rindex isascii isdecimal isnumeric istitle isidentifier isprintable sort add discard __init__
""".split())
DOUBLE = set("""
__init__ __eq__ __repr__ __str__ __len__ __enter__ __exit__ __call__ __iter__ __contains__ __or__ __and__ __sub__
""".split())
LIBRARY = {"heapq", "math", "itertools", "collections"}
BARRED_WORDS = re.compile(r"\b(typing|enum|Enum|Generic|Protocol|ABC|ABCMeta|namedtuple|NamedTuple|TypedDict)\b"
                          r"|dataclass|overload|contextmanager|abstractmethod")
BARRED_NAMES = {"register", "mro", "elements", "open", "input", "law", "eval", "exec", "globals", "locals", "vars",
                "dir", "id", "os", "sys", "help", "quit", "exit", "compile", "delattr", "frozenset", "chr", "print"}
PLAIN = (ast.Constant, ast.List, ast.Tuple, ast.Dict, ast.UnaryOp, ast.Name)
STATEMENTS_LEFT_OUT = (ast.Global, ast.AsyncFunctionDef, ast.AsyncFor, ast.AsyncWith, ast.Import, ast.Await)


def read(name):
    with open(os.path.join(FOLDER, name), encoding="utf-8") as file:
        return file.read()


SOURCES = {name: read(name) for name in NAMES}
TREES = {name: ast.parse(SOURCES[name]) for name in NAMES}
NODES = [(name, node) for name in NAMES for node in ast.walk(TREES[name])]
FUNCTIONS = [(name, node) for name, node in NODES if isinstance(node, ast.FunctionDef)]
OWN = {node.name for _, node in FUNCTIONS}


def assigned_names(node):
    """Return the names that a node binds."""
    if isinstance(node, ast.Name) and isinstance(node.ctx, ast.Store):
        return [node.id]
    if isinstance(node, ast.arg):
        return [node.arg]
    if isinstance(node, (ast.FunctionDef, ast.ClassDef)):
        return [node.name]
    return []


def is_yield(node):
    return isinstance(node, (ast.Yield, ast.YieldFrom))


class Files(unittest.TestCase):

    def test_names(self):
        for name in NAMES:
            self.assertRegex(name, r"^[a-z0-9_]+\.py$")

    def test_characters_and_sizes(self):
        for name, source in SOURCES.items():
            lines = source.split("\n")
            self.assertLessEqual(len(lines) - 1, 399, name)
            self.assertLessEqual(max(map(len, lines)), 120, name)
            self.assertRegex(source, r"^[ -~\n]*$", name)

    def test_functions_have_at_most_forty_lines(self):
        for name, node in FUNCTIONS:
            self.assertLessEqual(node.end_lineno - node.lineno + 1, 40, f"{name} {node.name}")

    def test_words(self):
        for name, source in SOURCES.items():
            self.assertIsNone(BARRED_WORDS.search(source), name)

    def test_docstrings(self):
        for name, node in NODES:
            if isinstance(node, (ast.Module, ast.ClassDef)):
                self.assertIsNotNone(ast.get_docstring(node), name)


class Modules(unittest.TestCase):

    def test_imports_stand_at_the_top_and_name_the_defining_file(self):
        defined = {name[:-len(".py")]: {part for node in TREES[name].body for part in self.bound(node)}
                   for name in NAMES}
        for name, tree in TREES.items():
            body = tree.body[1:]
            kinds = [isinstance(node, ast.ImportFrom) for node in body]
            self.assertEqual(kinds, sorted(kinds, reverse=True), name)
            for node in body:
                if isinstance(node, ast.ImportFrom) and node.module not in LIBRARY:
                    package, file = node.module.split(".")
                    self.assertEqual([package, node.level], ["formatrepair", 0])
                    self.assertLessEqual({part.name for part in node.names}, defined[file])
                    self.assertEqual([part.asname for part in node.names], [None] * len(node.names))

    def bound(self, node):
        if isinstance(node, ast.Assign):
            return [target.id for target in node.targets]
        return assigned_names(node)

    def test_module_level(self):
        for name, tree in TREES.items():
            for node in tree.body[1:]:
                self.assertIsInstance(node, (ast.ImportFrom, ast.FunctionDef, ast.ClassDef, ast.Assign), name)
                if isinstance(node, ast.Assign):
                    self.assertEqual(len(node.targets), 1, name)
                    self.assertIsInstance(node.value, PLAIN, name)

    def test_no_circle_of_imports(self):
        uses = {name[:-len(".py")]: {node.module.split(".")[-1] for node in tree.body
                                     if isinstance(node, ast.ImportFrom)} for name, tree in TREES.items()}
        while uses:
            free = [name for name in uses if not uses[name] & set(uses)]
            self.assertNotEqual(free, [])
            uses = {name: uses[name] for name in uses if name not in free}


class Words(unittest.TestCase):

    def test_builtins(self):
        for name, node in NODES:
            if isinstance(node, ast.Name) and hasattr(builtins, node.id):
                self.assertIn(node.id, BUILTINS, f"{name} {node.lineno}")

    def test_bound_names(self):
        for name, node in NODES:
            for word in assigned_names(node):
                place = f"{name} {word}"
                if word.startswith("__"):
                    self.assertIn(word, DOUBLE, place)
                else:
                    self.assertRegex(word, r"^(_|_?[a-zA-Z][a-zA-Z0-9_]*)$", place)
                    self.assertFalse(hasattr(builtins, word), place)
                    self.assertNotIn(word, BARRED_NAMES, place)

    def test_names_are_not_those_of_imports_or_classes(self):
        for name, tree in TREES.items():
            barred = {part.name for node in tree.body if isinstance(node, ast.ImportFrom) for part in node.names}
            barred |= {node.name for node in tree.body if isinstance(node, ast.ClassDef)}
            for node in ast.walk(tree):
                if not isinstance(node, ast.ClassDef):
                    self.assertEqual(barred & set(assigned_names(node)), set(), name)

    def test_methods_that_are_called(self):
        for name, node in NODES:
            if isinstance(node, ast.Call) and isinstance(node.func, ast.Attribute):
                self.assertIn(node.func.attr, METHODS | OWN, f"{name} {node.lineno}")

    def test_nothing_that_is_left_out(self):
        for name, node in NODES:
            self.assertNotIsInstance(node, STATEMENTS_LEFT_OUT, name)
            self.assertNotIsInstance(node, ast.GeneratorExp, f"{name}: with __eq__, any and the like take a list")
            self.assertNotIsInstance(getattr(node, "op", None), ast.Div, name)
            if isinstance(node, ast.Constant):
                self.assertNotIsInstance(node.value, (float, complex), name)
                self.assertFalse(isinstance(node.value, str) and "%" in node.value, name)

    def test_library_names_are_only_called(self):
        for name, tree in TREES.items():
            library = {part.name for node in tree.body if isinstance(node, ast.ImportFrom) and node.module in LIBRARY
                       for part in node.names}
            called = [node.func for node in ast.walk(tree) if isinstance(node, ast.Call) and not node.keywords]
            for node in ast.walk(tree):
                if isinstance(node, ast.Name) and node.id in library:
                    self.assertIn(node, called, f"{name} {node.lineno}")

    def test_generators_are_iterated_at_once(self):
        generators = [node for _, node in FUNCTIONS if any(map(is_yield, ast.walk(node)))]
        names = {node.name for node in generators}
        self.assertIn("texts", names)
        self.assertEqual(len([node for _, node in FUNCTIONS if node.name in names]), len(names))
        iterated = [node.iter for _, node in NODES if isinstance(node, (ast.For, ast.comprehension))]
        iterated += [node.value for _, node in NODES if isinstance(node, ast.YieldFrom)]
        calls = [node.func for node in iterated if isinstance(node, ast.Call)
                 and all(isinstance(value, (ast.Name, ast.Attribute, ast.Constant)) for value in node.args)]
        for name, node in NODES:
            if isinstance(node, ast.Name) and node.id in names:
                self.assertIn(node, calls, f"{name} {node.lineno}")
        for node in generators:
            self.assertEqual([part for part in ast.walk(node) if isinstance(part, (ast.Try, ast.With))], [])

    def test_decorators(self):
        for name, node in NODES:
            if isinstance(node, (ast.FunctionDef, ast.ClassDef)):
                for decorator in node.decorator_list:
                    allowed = isinstance(node, ast.FunctionDef) and (
                        isinstance(decorator, ast.Name) and decorator.id in ("property", "classmethod", "staticmethod")
                        or isinstance(decorator, ast.Attribute) and decorator.attr == "setter")
                    self.assertTrue(allowed, f"{name} {node.name}")
