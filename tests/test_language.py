"""The rules of the language, as far as they can be read off the files, and the interface's names."""

import ast
import builtins
import inspect
import re
import unittest
import warnings
from importlib import import_module
from pathlib import Path

FOLDER = Path(__file__).resolve().parent.parent / "turnedline"
BARRED_WORDS = (
    "type", "typing", "typing_extensions", "enum", "Enum", "IntEnum", "StrEnum", "Flag", "IntFlag",
    "Generic", "Protocol", "ABC", "ABCMeta", "namedtuple", "NamedTuple", "TypedDict",
    "TYPE_CHECKING", "abstractmethod",
)
BARRED_NODES = (
    ast.Global, ast.AsyncFunctionDef, ast.AsyncFor, ast.AsyncWith, ast.Await, ast.Import, ast.Div,
)
FUNCTIONS = {
    "lines": {
        "part_at": ["line", "place"], "rest_at": ["line", "place"], "laid_off": ["line"],
        "turned": ["line", "n"], "line_shown": ["line"], "read_line": ["text"],
    },
    "sums": {
        "sum_parts": ["line", "n"], "sum_rests": ["line", "n"],
        "sum_between": ["line", "low", "high"],
    },
    "squares": {
        "sum_squares": ["line", "n"], "sum_placed": ["line", "n"],
        "sum_rest_squares": ["line", "n"], "sum_rest_placed": ["line", "n"],
    },
    "rests": {
        "rests_beneath": ["line", "n", "bound"], "first_within": ["line", "low", "high"],
        "in_order": ["line", "n", "number"],
    },
    "points": {
        "points_between": ["above", "beneath", "low", "high"],
        "ends_between": ["above", "beneath", "low", "high"],
    },
    "maps": {
        "map_along": ["line", "n", "over", "up", "k"], "word_along": ["line", "n"],
    },
    "papers": {
        "sum_paper": ["line", "n"], "sum_shown": ["line", "n", "total", "paper"],
    },
}
METHODS = {"whole": {"Desk": {"__init__": ["self"], "ask": ["self", "line"]}}}
# Of L8, L25 and L17, as far as the names are not told by another rule already.
BUILTINS = (
    "len range enumerate zip min max sum abs sorted reversed int str bool bytes list tuple dict set frozenset "
    "isinstance ord repr any all divmod Exception ValueError TypeError KeyError IndexError LookupError "
    "ZeroDivisionError ArithmeticError OverflowError RuntimeError NotImplementedError AttributeError "
    "StopIteration NotImplemented iter next"
).split()
VALUE_METHODS = (
    "append clear copy count endswith extend find get index insert isalnum isalpha isdigit islower isspace "
    "isupper items join keys ljust lower lstrip partition pop remove replace reverse rfind rjust rpartition "
    "rsplit rstrip setdefault split splitlines startswith strip update upper values zfill bit_length title "
    "capitalize swapcase casefold center expandtabs removeprefix removesuffix rindex isascii isdecimal "
    "isnumeric istitle isidentifier isprintable"
).split()
BARRED_NAMES = (
    "register mro elements open input version_info with_traceback add_note attrgetter breakpoint builtins "
    "compile copyright credits delattr dir eval exec exit gc getattr globals hasattr help id importlib "
    "license locals methodcaller os quit setattr super type vars sys"
).split()


def files():
    return sorted(FOLDER.glob("*.py"))


def nodes():
    for path in files():
        for node in ast.walk(ast.parse(path.read_text())):
            yield path.name, node


def bound_names(tree):
    """The names that a file binds other than by its imports: functions, classes, parameters, targets."""
    for node in ast.walk(tree):
        if isinstance(node, (ast.FunctionDef, ast.ClassDef)):
            yield node.name
        elif isinstance(node, ast.arg):
            yield node.arg
        elif isinstance(node, ast.Name) and not isinstance(node.ctx, ast.Load):
            yield node.id


def imported_names(tree):
    for node in tree.body:
        if isinstance(node, ast.ImportFrom):
            for alias in node.names:
                yield node.module, alias.name


def module_names(tree):
    """The names bound at module level, each as often as it is bound."""
    for node in tree.body:
        if isinstance(node, (ast.FunctionDef, ast.ClassDef)):
            yield node.name
        elif isinstance(node, ast.Assign):
            for target in node.targets:
                yield target.id
    for module, name in imported_names(tree):
        yield name


class Language(unittest.TestCase):

    def test_there_are_files_of_plain_names(self):
        self.assertIn(FOLDER / "__init__.py", files())
        for path in FOLDER.iterdir():
            if path.name != "__pycache__":
                self.assertRegex(path.name, r"\A[a-z0-9_]+\.py\Z")

    def test_sizes_and_signs(self):
        for path in files():
            text = path.read_text()
            self.assertRegex(text, r"\A[ -~\n]*\Z", path.name)
            rows = text.splitlines()
            self.assertLessEqual(len(rows), 400, path.name)
            self.assertLessEqual(max(map(len, rows), default=0), 120, path.name)

    def test_python_gives_no_warning(self):
        with warnings.catch_warnings():
            warnings.simplefilter("error")
            for path in files():
                compile(path.read_text(), path.name, "exec")

    def test_functions_are_short(self):
        for name, node in nodes():
            if isinstance(node, ast.FunctionDef):
                self.assertLessEqual(node.end_lineno - node.lineno + 1, 40, (name, node.name))

    def test_barred_words(self):
        for path in files():
            words = re.findall(r"\w+", path.read_text())
            self.assertEqual(sorted(set(words) & set(BARRED_WORDS)), [], path.name)

    def test_barred_statements_and_values(self):
        for name, node in nodes():
            self.assertNotIsInstance(node, BARRED_NODES, name)
            if isinstance(node, ast.Constant):
                self.assertNotIsInstance(node.value, (float, complex), name)
                if isinstance(node.value, str):
                    self.assertNotIn("%", node.value, name)

    def test_imports_are_of_the_package(self):
        for name, node in nodes():
            if isinstance(node, ast.ImportFrom):
                self.assertEqual(node.level, 0, name)
                self.assertRegex(node.module, r"\Aturnedline\.[a-z]+\Z", name)

    def test_each_import_names_the_file_that_defines_it(self):
        trees = {f"turnedline.{path.stem}": ast.parse(path.read_text()) for path in files()}
        for name, tree in trees.items():
            for module, imported in imported_names(tree):
                own = [node.name for node in trees[module].body if hasattr(node, "name")]
                self.assertIn(imported, own, (name, module))

    def test_no_two_files_import_from_each_other(self):
        left = {}
        for path in files():
            tree = ast.parse(path.read_text())
            left[f"turnedline.{path.stem}"] = {module for module, name in imported_names(tree)}
        while left:
            free = [name for name, needs in left.items() if not needs & set(left)]
            self.assertNotEqual(free, [], left)
            for name in free:
                del left[name]

    def test_module_level(self):
        for path in files():
            tree = ast.parse(path.read_text())
            for at, node in enumerate(tree.body):
                plain = isinstance(node, (ast.ImportFrom, ast.FunctionDef, ast.ClassDef, ast.Assign))
                self.assertTrue(plain or at == 0 and isinstance(node, ast.Expr), (path.name, node.lineno))
            names = list(module_names(tree))
            self.assertEqual(sorted(set(names)), sorted(names), path.name)

    def test_tables_hold_functions_of_their_own_file(self):
        for path in files():
            above = []
            for node in ast.parse(path.read_text()).body:
                if isinstance(node, ast.FunctionDef):
                    above.append(node.name)
                elif isinstance(node, ast.Assign):
                    used = [part.id for part in ast.walk(node.value) if isinstance(part, ast.Name)]
                    self.assertLessEqual(set(used), set(above), path.name)

    def test_names(self):
        for path in files():
            tree = ast.parse(path.read_text())
            imported = {name for module, name in imported_names(tree)}
            for name in bound_names(tree):
                if name == "__init__":
                    continue
                self.assertRegex(name, r"\A[A-Za-z][A-Za-z0-9_]*\Z", path.name)
                self.assertNotIn(name, imported, path.name)
                self.assertNotIn(name, BARRED_NAMES, path.name)
                self.assertFalse(hasattr(builtins, name), (path.name, name))

    def test_builtins_that_are_used(self):
        for name, node in nodes():
            if isinstance(node, ast.Name) and hasattr(builtins, node.id):
                self.assertIn(node.id, BUILTINS, name)

    def test_methods_that_are_used(self):
        own = {node.name for name, node in nodes() if isinstance(node, ast.FunctionDef)}
        for name, node in nodes():
            if isinstance(node, ast.Call) and isinstance(node.func, ast.Attribute):
                self.assertIn(node.func.attr, own | set(VALUE_METHODS), name)
                self.assertEqual(node.keywords, [], name)

    def test_no_decorator_and_no_power(self):
        for name, node in nodes():
            if isinstance(node, (ast.FunctionDef, ast.ClassDef)):
                self.assertEqual(node.decorator_list, [], name)
            self.assertNotIsInstance(node, ast.Pow, name)

    def test_each_method_of_the_interface_stands_in_its_class(self):
        for module, classes in METHODS.items():
            for name, methods in classes.items():
                found = getattr(import_module(f"turnedline.{module}"), name)
                self.assertEqual(found.__module__, f"turnedline.{module}")
                for method, parameters in methods.items():
                    own = vars(found)[method]
                    self.assertEqual(list(inspect.signature(own).parameters), parameters, method)

    def test_each_function_of_the_interface(self):
        for module, functions in FUNCTIONS.items():
            for name, parameters in functions.items():
                found = getattr(import_module(f"turnedline.{module}"), name)
                self.assertEqual(found.__module__, f"turnedline.{module}")
                self.assertEqual(list(inspect.signature(found).parameters), parameters, name)


if __name__ == "__main__":
    unittest.main()
