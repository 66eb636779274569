"""The names of the interface, and the rules of form that can be read off the files of the package."""

import ast
import builtins
import importlib
import inspect
import re
from pathlib import Path

from tests.support import KinCase

PACKAGE = Path(__file__).resolve().parent.parent / "windowkin"

FUNCTIONS = {
    "paths": {
        "is_path": "(graph, path)",
        "paths": "(graph, length)",
        "closed_paths": "(graph, length)",
        "count_paths": "(graph, length)",
        "count_closed": "(graph, length)",
    },
    "rows": {
        "check_row": "(graph, row)",
        "normal_row": "(row)",
        "edge_at": "(row, place)",
        "drop": "(row, *, count=1)",
        "state_at": "(graph, row, place)",
    },
}
METHODS = {
    ("graphs", "Graph"): {
        "__init__": "(self, states, edges)",
        "__eq__": "(self, other)",
        "__len__": "(self)",
        "__repr__": "(self)",
        "full": "(cls, count)",
        "states": "(self)",
        "edges": "(self)",
        "edge": "(self, number)",
        "leaving": "(self, state)",
        "entering": "(self, state)",
        "counts": "(self)",
    },
}
BUILTINS = set("""len range enumerate zip min max sum abs sorted reversed int str bool list tuple dict set isinstance
    ord repr any all divmod iter next super property staticmethod classmethod
    Exception ValueError TypeError KeyError IndexError LookupError ZeroDivisionError ArithmeticError OverflowError
    RuntimeError NotImplementedError AttributeError StopIteration NotImplemented""".split())
BARRED_WORDS = """type typing typing_extensions enum Enum IntEnum StrEnum Flag IntFlag Generic Protocol ABC ABCMeta
    namedtuple NamedTuple TypedDict TYPE_CHECKING abstractmethod""".split()
SPECIAL_METHODS = set("__init__ __eq__ __repr__ __str__ __len__".split())


def sources():
    return {path.name: path.read_text(encoding="utf-8") for path in sorted(PACKAGE.glob("*.py"))}


def nodes(kind):
    """All parts of a kind of the files of the package, each with the name of its file."""
    return [(name, node) for name, text in sources().items() for node in ast.walk(ast.parse(text))
            if isinstance(node, kind)]


class InterfaceTest(KinCase):
    def test_functions_stand_in_their_files_with_their_arguments(self):
        for file_name, functions in FUNCTIONS.items():
            module = importlib.import_module(f"windowkin.{file_name}")
            for name, arguments in functions.items():
                function = getattr(module, name)
                self.assertEqual(function.__module__, module.__name__)
                self.assertEqual(str(inspect.signature(function)), arguments, name)

    def test_methods_stand_in_their_classes_with_their_arguments(self):
        for (file_name, class_name), methods in METHODS.items():
            module = importlib.import_module(f"windowkin.{file_name}")
            owner = getattr(module, class_name)
            self.assertEqual(owner.__module__, module.__name__)
            for name, arguments in methods.items():
                method = vars(owner)[name]
                method = method.fget if isinstance(method, property) else getattr(method, "__func__", method)
                self.assertEqual(str(inspect.signature(method)), arguments, name)

    def test_kinds_of_methods(self):
        owner = importlib.import_module("windowkin.graphs").Graph
        self.assertIsInstance(vars(owner)["full"], classmethod)
        self.assertIsInstance(vars(owner)["states"], property)


class FormTest(KinCase):
    def test_files(self):
        for path in PACKAGE.iterdir():
            if path.name != "__pycache__":
                self.assertRegex(path.name, r"^[a-z0-9_]+\.py$")

    def test_characters_and_sizes(self):
        for name, text in sources().items():
            self.assertTrue(all(sign == "\n" or " " <= sign <= "~" for sign in text), name)
            lines = text.split("\n")
            self.assertLessEqual(len(lines), 399, name)
            self.assertLessEqual(max(len(line) for line in lines), 120, name)

    def test_functions_have_at_most_40_lines(self):
        for name, node in nodes(ast.FunctionDef):
            self.assertLessEqual(node.end_lineno - node.lineno + 1, 40, (name, node.name))

    def test_barred_words(self):
        for name, text in sources().items():
            for word in BARRED_WORDS:
                self.assertIsNone(re.search(rf"\b{word}\b", text), (name, word))

    def test_imports_are_from_the_package(self):
        self.assertEqual(nodes((ast.Import, ast.Global, ast.AsyncFunctionDef)), [])
        for name, node in nodes(ast.ImportFrom):
            self.assertEqual((node.level, node.module.split(".")[0]), (0, "windowkin"), name)
            self.assertNotIn("*", [alias.name for alias in node.names])

    def test_builtins(self):
        for name, node in nodes(ast.Name):
            if hasattr(builtins, node.id):
                self.assertIn(node.id, BUILTINS, name)
                self.assertIsInstance(node.ctx, ast.Load, (name, node.id))

    def test_names_do_not_begin_with_an_underscore(self):
        found = [(name, node.id) for name, node in nodes(ast.Name)]
        found += [(name, node.attr) for name, node in nodes(ast.Attribute)]
        found += [(name, node.arg) for name, node in nodes(ast.arg)]
        found += [(name, node.name) for name, node in nodes((ast.FunctionDef, ast.ClassDef))]
        for name, word in found:
            self.assertTrue(word in SPECIAL_METHODS or not word.startswith("_"), (name, word))

    def test_no_name_is_a_method_and_an_attribute(self):
        methods = {part.name for name, node in nodes(ast.ClassDef) for part in node.body
                   if isinstance(part, ast.FunctionDef)}
        assigned = {node.attr for name, node in nodes(ast.Attribute) if isinstance(node.ctx, ast.Store)}
        self.assertEqual(methods & assigned, set())

    def test_no_fractions_and_no_generator_expressions(self):
        self.assertEqual(nodes((ast.Div, ast.GeneratorExp)), [])
        for name, node in nodes(ast.Constant):
            self.assertNotIsInstance(node.value, (float, complex), name)

    def test_strings_have_no_percent_sign(self):
        for name, node in nodes(ast.Constant):
            if isinstance(node.value, str):
                self.assertNotIn("%", node.value, name)
