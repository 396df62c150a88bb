"""The package keeps to the rules of its language that a reading of its files can show."""

import ast
import builtins
import pathlib
import re
import unittest
import warnings

PACKAGE = pathlib.Path(__file__).resolve().parent.parent / "wherefrom"
FILES = sorted(PACKAGE.glob("*.py"))

ALLOWED_BUILTINS = set(
    "len range enumerate zip min max sum abs sorted reversed int str bool bytes list tuple dict set frozenset "
    "isinstance ord repr any all divmod iter next Exception ValueError TypeError KeyError IndexError LookupError "
    "ZeroDivisionError ArithmeticError OverflowError RuntimeError NotImplementedError AttributeError StopIteration "
    "NotImplemented object float super property staticmethod classmethod".split()
)
BARRED_WORDS = re.compile(
    r"\b(type|typing|typing_extensions|enum|Enum|IntEnum|StrEnum|Flag|IntFlag|Generic|Protocol|ABC|ABCMeta|namedtuple"
    r"|NamedTuple|TypedDict|TYPE_CHECKING|abstractmethod)\b|dataclass|overload|contextmanager"
)
BARRED_NODES = (
    ast.Global, ast.AsyncFunctionDef, ast.AsyncFor, ast.AsyncWith, ast.Await, ast.Import, ast.Div, ast.MatMult,
)


BUILTIN_METHODS = set(
    "append clear copy count endswith extend find get index insert isalnum isalpha isdigit islower isspace isupper "
    "items join keys ljust lower lstrip partition pop remove replace reverse rfind rjust rpartition rsplit rstrip "
    "setdefault split splitlines startswith strip update upper values zfill bit_length add discard "
    "title capitalize swapcase casefold center expandtabs removeprefix removesuffix rindex isascii isdecimal isnumeric "
    "istitle isidentifier isprintable translate".split()
)
OWN_CLASS_METHODS = set(
    "__init__ do begin_anew look_place stand walk shift lay leave back copied beat row spots numbers begun letters "
    "log".split()
)


def nodes_of(path):
    return list(ast.walk(ast.parse(path.read_text())))


def own_imports(path):
    """What a file imports from the package: (module, name) each."""
    return [
        (node.module.split(".")[1], alias.name)
        for node in nodes_of(path) if isinstance(node, ast.ImportFrom) and node.module != "__future__"
        for alias in node.names
    ]


def bound_names(nodes):
    """All names that the nodes bind, but methods and attributes."""
    names = []
    for node in nodes:
        if isinstance(node, ast.Name) and not isinstance(node.ctx, ast.Load):
            names.append(node.id)
        elif isinstance(node, ast.arg):
            names.append(node.arg)
        elif isinstance(node, ast.ClassDef):
            names.append(node.name)
    return names


class Language(unittest.TestCase):
    def test_files(self):
        names = [path.name for path in PACKAGE.iterdir() if path.name != "__pycache__"]
        self.assertIn("__init__.py", names)
        for name in names:
            self.assertRegex(name, r"^([a-z][a-z0-9_]*|__init__|__main__)\.py$")

    def test_sizes(self):
        for path in FILES:
            lines = path.read_text().split("\n")
            self.assertLessEqual(len(lines), 400, path.name)
            for line in lines:
                self.assertLessEqual(len(line), 120, path.name)
            for node in nodes_of(path):
                if isinstance(node, ast.FunctionDef):
                    self.assertLessEqual(node.end_lineno - node.lineno + 1, 40, node.name)

    def test_signs_and_words(self):
        for path in FILES:
            text = path.read_text()
            self.assertRegex(text, r"\A[ -~\n]*\Z", path.name)
            self.assertIsNone(BARRED_WORDS.search(text), path.name)

    def test_statements_and_values(self):
        for path in FILES:
            for node in nodes_of(path):
                self.assertNotIsInstance(node, BARRED_NODES, path.name)
                if isinstance(node, ast.Constant):
                    self.assertNotIsInstance(node.value, (float, complex), path.name)
                    if isinstance(node.value, str):
                        self.assertNotIn("%", node.value, path.name)

    def test_imports(self):
        for path in FILES:
            for node in nodes_of(path):
                if isinstance(node, ast.ImportFrom) and node.module != "__future__":
                    self.assertEqual(node.level, 0, path.name)
                    self.assertRegex(node.module, r"^wherefrom\.[a-z]+$", path.name)
                    self.assertNotIn("*", [name.name for name in node.names], path.name)

    def test_imports_name_the_file_that_defines(self):
        for path in FILES:
            for module, name in own_imports(path):
                tree = ast.parse((PACKAGE / f"{module}.py").read_text())
                defined = [node.name for node in tree.body if isinstance(node, (ast.FunctionDef, ast.ClassDef))]
                for node in tree.body:
                    if isinstance(node, ast.Assign):
                        defined += [target.id for target in node.targets]
                self.assertIn(name, defined, path.name)

    def test_no_two_files_import_from_each_other(self):
        reached = {path.stem: {module for module, _ in own_imports(path)} for path in FILES}
        for _ in FILES:
            for name, others in reached.items():
                reached[name] = others.union(*(reached[other] for other in others))
        for name, others in reached.items():
            self.assertNotIn(name, others)

    def test_no_variable_has_the_name_of_an_import_or_a_class(self):
        for path in FILES:
            nodes = nodes_of(path)
            taken = [name for _, name in own_imports(path)]
            taken += [node.name for node in nodes if isinstance(node, ast.ClassDef)]
            for node in nodes:
                if isinstance(node, ast.Name) and not isinstance(node.ctx, ast.Load):
                    self.assertNotIn(node.id, taken, path.name)
                elif isinstance(node, ast.arg):
                    self.assertNotIn(node.arg, taken, path.name)

    def test_methods_that_are_called(self):
        for path in FILES:
            for node in nodes_of(path):
                if isinstance(node, ast.Call) and isinstance(node.func, ast.Attribute):
                    self.assertIn(node.func.attr, BUILTIN_METHODS | OWN_CLASS_METHODS, path.name)

    def test_powers_by_a_written_number_alone(self):
        for path in FILES:
            for node in nodes_of(path):
                if isinstance(node, ast.BinOp) and isinstance(node.op, ast.Pow):
                    self.assertIsInstance(node.right, ast.Constant, path.name)

    def test_no_generator_expressions(self):
        # A class that compares is there, so any, all, min, max, sum and sorted take lists.
        for path in FILES:
            for node in nodes_of(path):
                self.assertNotIsInstance(node, (ast.GeneratorExp, ast.Yield, ast.YieldFrom), path.name)

    def test_no_name_is_a_method_and_an_attribute(self):
        methods, attributes = set(), set()
        for path in FILES:
            for node in nodes_of(path):
                if isinstance(node, ast.ClassDef):
                    methods.update(part.name for part in node.body if isinstance(part, ast.FunctionDef))
                elif isinstance(node, ast.Attribute) and isinstance(node.ctx, ast.Store):
                    attributes.add(node.attr)
        self.assertEqual(methods & attributes, set())

    def test_names(self):
        for path in FILES:
            nodes = nodes_of(path)
            names = bound_names(nodes)
            for name in names:
                self.assertRegex(name, r"^[A-Za-z][A-Za-z0-9_]*$", path.name)
                self.assertFalse(hasattr(builtins, name), f"{path.name}: {name}")
            for node in nodes:
                if isinstance(node, ast.Name) and hasattr(builtins, node.id):
                    self.assertIn(node.id, ALLOWED_BUILTINS, path.name)

    def test_is_beside_none_and_truths_alone(self):
        for path in FILES:
            for node in nodes_of(path):
                if isinstance(node, ast.Compare):
                    for sign, side in zip(node.ops, node.comparators):
                        if isinstance(sign, (ast.Is, ast.IsNot)):
                            self.assertIsInstance(side, ast.Constant, path.name)
                            self.assertIn(side.value, (None, True, False), path.name)

    def test_python_warns_of_nothing(self):
        for path in FILES:
            with warnings.catch_warnings():
                warnings.simplefilter("error")
                compile(path.read_text(), path.name, "exec")


if __name__ == "__main__":
    unittest.main()
