"""The names of the interface, and the rules of form that can be read off the files of the package."""

import ast
import builtins
import importlib
import inspect
import re
from pathlib import Path

from tests.support import KinCase

PACKAGE = Path(__file__).resolve().parent.parent / "windowkin"

STEP_METHODS = {
    "__eq__": "(self, other)",
    "check": "(self, graph)",
    "result": "(self, graph)",
    "forward": "(self, graph)",
    "back": "(self, graph)",
    "undone": "(self, graph)",
    "text": "(self)",
}
FUNCTIONS = {
    "chains": {
        "chain_result": "(graph, chain)",
        "lead_through": "(graph, chain, row)",
        "lead_back": "(graph, chain, row)",
        "undone_chain": "(graph, chain)",
        "chain_code": "(graph, chain, *, back=False)",
        "leads_to": "(one, other, chain)",
    },
    "codes": {
        "compose": "(first, *others)",
        "alike": "(one, other)",
    },
    "files": {
        "dump": "(workshop)",
        "load": "(text)",
    },
    "judging": {
        "conflict": "(code)",
        "width_back": "(code)",
        "unreached": "(code)",
        "inverse": "(code)",
    },
    "kin": {
        "compare": "(one, other)",
        "check_comparison": "(one, other, claimed)",
        "are_kin": "(one, other)",
    },
    "least": {
        "merge_pairs": "(graph)",
        "least": "(graph)",
        "find_renaming": "(one, other)",
    },
    "origins": {
        "count_origins": "(code, row)",
        "origins": "(code, row)",
    },
    "paths": {
        "is_path": "(graph, path)",
        "paths": "(graph, length)",
        "closed_paths": "(graph, length)",
        "count_paths": "(graph, length)",
        "count_closed": "(graph, length)",
    },
    "rows": {
        "check_row": "(graph, row)",
        "normal_row": "(row)",
        "edge_at": "(row, place)",
        "drop": "(row, *, count=1)",
        "state_at": "(graph, row, place)",
    },
    "search": {
        "find_codes": "(one, other, *, width=1)",
    },
    "texts": {
        "graph_text": "(graph)",
        "row_text": "(row)",
        "code_text": "(code)",
        "parse_graph": "(text)",
        "parse_row": "(text)",
        "parse_step": "(text)",
        "parse_code": "(text, source, target)",
    },
}
CONSTANTS = {
    "chains": {"MAX_STEPS": 60},
    "judging": {"MAX_JUDGED": 12},
    "origins": {"MAX_LISTED": 60},
    "paths": {"MAX_LENGTH": 40, "MAX_COUNTED": 2000},
    "search": {"MAX_MAPS": 4096},
    "workshop": {"MAX_THINGS": 12},
}
METHODS = {
    ("codes", "Code"): {
        "__init__": "(self, source, target, width, images)",
        "__eq__": "(self, other)",
        "__len__": "(self)",
        "__repr__": "(self)",
        "identity": "(cls, graph)",
        "source": "(self)",
        "target": "(self)",
        "width": "(self)",
        "images": "(self)",
        "lead_path": "(self, path)",
        "lead": "(self, row)",
        "narrowed": "(self)",
        "widened": "(self, width)",
    },
    ("steps", "Split"): {"__init__": "(self, state, part)", **STEP_METHODS},
    ("steps", "Merge"): {"__init__": "(self, one, other)", **STEP_METHODS},
    ("steps", "Renaming"): {"__init__": "(self, states, edges)", **STEP_METHODS},
    ("steps", "Step"): {},
    ("graphs", "Graph"): {
        "__init__": "(self, states, edges)",
        "__eq__": "(self, other)",
        "__len__": "(self)",
        "__repr__": "(self)",
        "full": "(cls, count)",
        "states": "(self)",
        "edges": "(self)",
        "edge": "(self, number)",
        "leaving": "(self, state)",
        "entering": "(self, state)",
        "counts": "(self)",
    },
    ("workshop", "Workshop"): {
        "__init__": "(self)",
        "__eq__": "(self, other)",
        "__len__": "(self)",
        "__repr__": "(self)",
        "apply": "(self, command)",
        "apply_all": "(self, commands)",
        "undo": "(self)",
        "redo": "(self)",
        "history": "(self)",
        "capacity": "(self)",
        "set_capacity": "(self, value)",
        "names": "(self, *kinds)",
        "kind": "(self, name)",
        "graph": "(self, name)",
        "row": "(self, name)",
        "code": "(self, name)",
        "clone": "(self)",
    },
    ("console", "Console"): {
        "__init__": "(self, workshop)",
        "__len__": "(self)",
        "run": "(self, line)",
        "log": "(self)",
    },
}
BUILTINS = set("""len range enumerate zip min max sum abs sorted reversed int str bool list tuple dict set isinstance
    ord repr any all divmod iter next super property staticmethod classmethod
    Exception ValueError TypeError KeyError IndexError LookupError ZeroDivisionError ArithmeticError OverflowError
    RuntimeError NotImplementedError AttributeError StopIteration NotImplemented""".split())
BARRED_WORDS = """type typing typing_extensions enum Enum IntEnum StrEnum Flag IntFlag Generic Protocol ABC ABCMeta
    namedtuple NamedTuple TypedDict TYPE_CHECKING abstractmethod""".split()
SPECIAL_METHODS = set("__init__ __eq__ __repr__ __str__ __len__".split())


def sources():
    return {path.name: path.read_text(encoding="utf-8") for path in sorted(PACKAGE.glob("*.py"))}


def nodes(kind):
    """All parts of a kind of the files of the package, each with the name of its file."""
    return [(name, node) for name, text in sources().items() for node in ast.walk(ast.parse(text))
            if isinstance(node, kind)]


class InterfaceTest(KinCase):
    def test_functions_stand_in_their_files_with_their_arguments(self):
        for file_name, functions in FUNCTIONS.items():
            module = importlib.import_module(f"windowkin.{file_name}")
            for name, arguments in functions.items():
                function = getattr(module, name)
                self.assertEqual(function.__module__, module.__name__)
                self.assertEqual(str(inspect.signature(function)), arguments, name)

    def test_methods_stand_in_their_classes_with_their_arguments(self):
        for (file_name, class_name), methods in METHODS.items():
            module = importlib.import_module(f"windowkin.{file_name}")
            owner = getattr(module, class_name)
            self.assertEqual(owner.__module__, module.__name__)
            for name, arguments in methods.items():
                method = vars(owner)[name]
                method = method.fget if isinstance(method, property) else getattr(method, "__func__", method)
                self.assertEqual(str(inspect.signature(method)), arguments, name)

    def test_constants(self):
        for file_name, constants in CONSTANTS.items():
            module = importlib.import_module(f"windowkin.{file_name}")
            self.assertEqual({name: getattr(module, name) for name in constants}, constants)

    def test_kinds_of_methods(self):
        owner = importlib.import_module("windowkin.graphs").Graph
        self.assertIsInstance(vars(owner)["full"], classmethod)
        self.assertIsInstance(vars(owner)["states"], property)
        owner = importlib.import_module("windowkin.codes").Code
        self.assertIsInstance(vars(owner)["identity"], classmethod)
        for name in ("source", "target", "width"):
            self.assertIsInstance(vars(owner)[name], property)
        owner = importlib.import_module("windowkin.workshop").Workshop
        for name in ("history", "capacity"):
            self.assertIsInstance(vars(owner)[name], property)
        self.assertIsNone(vars(owner)["history"].fset)
        self.assertIsNotNone(vars(owner)["capacity"].fset)


class FormTest(KinCase):
    def test_files(self):
        for path in PACKAGE.iterdir():
            if path.name != "__pycache__":
                self.assertRegex(path.name, r"^[a-z0-9_]+\.py$")

    def test_characters_and_sizes(self):
        for name, text in sources().items():
            self.assertTrue(all(sign == "\n" or " " <= sign <= "~" for sign in text), name)
            lines = text.split("\n")
            self.assertLessEqual(len(lines), 399, name)
            self.assertLessEqual(max(len(line) for line in lines), 120, name)

    def test_functions_have_at_most_40_lines(self):
        for name, node in nodes(ast.FunctionDef):
            self.assertLessEqual(node.end_lineno - node.lineno + 1, 40, (name, node.name))

    def test_barred_words(self):
        for name, text in sources().items():
            for word in BARRED_WORDS:
                self.assertIsNone(re.search(rf"\b{word}\b", text), (name, word))

    def test_imports_are_from_the_package(self):
        self.assertEqual(nodes((ast.Import, ast.Global, ast.AsyncFunctionDef)), [])
        for name, node in nodes(ast.ImportFrom):
            self.assertEqual((node.level, node.module.split(".")[0]), (0, "windowkin"), name)
            self.assertNotIn("*", [alias.name for alias in node.names])

    def test_builtins(self):
        for name, node in nodes(ast.Name):
            if hasattr(builtins, node.id):
                self.assertIn(node.id, BUILTINS, name)
                self.assertIsInstance(node.ctx, ast.Load, (name, node.id))

    def test_parameters_have_no_names_of_builtins(self):
        for name, node in nodes(ast.arg):
            self.assertFalse(hasattr(builtins, node.arg), (name, node.arg))

    def test_no_variable_has_the_name_of_a_class_or_an_import_of_its_file(self):
        for name, text in sources().items():
            tree = ast.parse(text)
            taken = {alias.name for node in ast.walk(tree) if isinstance(node, ast.ImportFrom) for alias in node.names}
            taken |= {node.name for node in ast.walk(tree) if isinstance(node, ast.ClassDef)}
            used = {node.id for node in ast.walk(tree)
                    if isinstance(node, ast.Name) and isinstance(node.ctx, ast.Store)}
            used |= {node.arg for node in ast.walk(tree) if isinstance(node, ast.arg)}
            self.assertEqual(taken & used, set(), name)

    def test_imports_name_the_file_that_defines_the_name_and_go_round_nowhere(self):
        imported = {name[:-3]: set() for name in sources()}
        for name, node in nodes(ast.ImportFrom):
            origin = node.module.split(".")[1]
            parts = ast.parse(sources()[f"{origin}.py"]).body
            defined = {part.name for part in parts if hasattr(part, "name")}
            defined |= {target.id for part in parts if isinstance(part, ast.Assign) for target in part.targets}
            self.assertTrue({alias.name for alias in node.names} <= defined, (name, node.module))
            imported[name[:-3]].add(origin)
        while imported:
            free = [name for name, files in imported.items() if not files & set(imported)]
            self.assertTrue(free, imported)
            for name in free:
                del imported[name]

    def test_names_of_generators_are_not_used_otherwise(self):
        made = {node.name for name, node in nodes(ast.FunctionDef)
                if any(isinstance(part, (ast.Yield, ast.YieldFrom)) for part in ast.walk(node))}
        every = [node.name for name, node in nodes(ast.FunctionDef)]
        for name in made:
            self.assertEqual(every.count(name), 1, name)

    def test_names_do_not_begin_with_an_underscore(self):
        found = [(name, node.id) for name, node in nodes(ast.Name)]
        found += [(name, node.attr) for name, node in nodes(ast.Attribute)]
        found += [(name, node.arg) for name, node in nodes(ast.arg)]
        found += [(name, node.name) for name, node in nodes((ast.FunctionDef, ast.ClassDef))]
        for name, word in found:
            self.assertTrue(word in SPECIAL_METHODS or not word.startswith("_"), (name, word))

    def test_no_name_is_a_method_and_an_attribute(self):
        parts = [part for name, node in nodes(ast.ClassDef) for part in node.body if isinstance(part, ast.FunctionDef)]
        setters = {part.name for part in parts if any(isinstance(mark, ast.Attribute) for mark in part.decorator_list)}
        methods = {part.name for part in parts} - setters
        assigned = {node.attr for name, node in nodes(ast.Attribute) if isinstance(node.ctx, ast.Store)}
        self.assertEqual(methods & assigned, set())

    def test_no_fractions_and_no_generator_expressions(self):
        self.assertEqual(nodes((ast.Div, ast.GeneratorExp)), [])
        for name, node in nodes(ast.Constant):
            self.assertNotIsInstance(node.value, (float, complex), name)

    def test_strings_have_no_percent_sign(self):
        for name, node in nodes(ast.Constant):
            if isinstance(node.value, str):
                self.assertNotIn("%", node.value, name)
