"""The rules of the language, as far as they can be read off the files, and the interface's names."""

import ast
import inspect
import re
import unittest
import warnings
from importlib import import_module
from pathlib import Path

FOLDER = Path(__file__).resolve().parent.parent / "turnedline"
BARRED_WORDS = (
    "type", "typing", "typing_extensions", "enum", "Enum", "IntEnum", "StrEnum", "Flag", "IntFlag",
    "Generic", "Protocol", "ABC", "ABCMeta", "namedtuple", "NamedTuple", "TypedDict",
    "TYPE_CHECKING", "abstractmethod",
)
BARRED_NODES = (
    ast.Global, ast.AsyncFunctionDef, ast.AsyncFor, ast.AsyncWith, ast.Await, ast.Import, ast.Div,
)
FUNCTIONS = {
    "lines": {
        "part_at": ["line", "place"], "rest_at": ["line", "place"], "laid_off": ["line"],
        "turned": ["line", "n"], "line_shown": ["line"], "read_line": ["text"],
    },
    "sums": {
        "sum_parts": ["line", "n"], "sum_rests": ["line", "n"],
        "sum_between": ["line", "low", "high"],
    },
    "squares": {
        "sum_squares": ["line", "n"], "sum_placed": ["line", "n"],
        "sum_rest_squares": ["line", "n"], "sum_rest_placed": ["line", "n"],
    },
    "rests": {
        "rests_beneath": ["line", "n", "bound"], "first_within": ["line", "low", "high"],
        "in_order": ["line", "n", "number"],
    },
    "points": {
        "points_between": ["above", "beneath", "low", "high"],
        "ends_between": ["above", "beneath", "low", "high"],
    },
}


def files():
    return sorted(FOLDER.glob("*.py"))


def nodes():
    for path in files():
        for node in ast.walk(ast.parse(path.read_text())):
            yield path.name, node


class Language(unittest.TestCase):

    def test_there_are_files_of_plain_names(self):
        self.assertIn(FOLDER / "__init__.py", files())
        for path in FOLDER.iterdir():
            if path.name != "__pycache__":
                self.assertRegex(path.name, r"\A[a-z0-9_]+\.py\Z")

    def test_sizes_and_signs(self):
        for path in files():
            text = path.read_text()
            self.assertRegex(text, r"\A[ -~\n]*\Z", path.name)
            rows = text.splitlines()
            self.assertLessEqual(len(rows), 400, path.name)
            self.assertLessEqual(max(map(len, rows), default=0), 120, path.name)

    def test_python_gives_no_warning(self):
        with warnings.catch_warnings():
            warnings.simplefilter("error")
            for path in files():
                compile(path.read_text(), path.name, "exec")

    def test_functions_are_short(self):
        for name, node in nodes():
            if isinstance(node, ast.FunctionDef):
                self.assertLessEqual(node.end_lineno - node.lineno + 1, 40, (name, node.name))

    def test_barred_words(self):
        for path in files():
            words = re.findall(r"\w+", path.read_text())
            self.assertEqual(sorted(set(words) & set(BARRED_WORDS)), [], path.name)

    def test_barred_statements_and_values(self):
        for name, node in nodes():
            self.assertNotIsInstance(node, BARRED_NODES, name)
            if isinstance(node, ast.Constant):
                self.assertNotIsInstance(node.value, (float, complex), name)
                if isinstance(node.value, str):
                    self.assertNotIn("%", node.value, name)

    def test_imports_are_of_the_package(self):
        for name, node in nodes():
            if isinstance(node, ast.ImportFrom):
                self.assertEqual(node.level, 0, name)
                self.assertRegex(node.module, r"\Aturnedline\.[a-z]+\Z", name)

    def test_each_function_of_the_interface(self):
        for module, functions in FUNCTIONS.items():
            for name, parameters in functions.items():
                found = getattr(import_module(f"turnedline.{module}"), name)
                self.assertEqual(found.__module__, f"turnedline.{module}")
                self.assertEqual(list(inspect.signature(found).parameters), parameters, name)


if __name__ == "__main__":
    unittest.main()
