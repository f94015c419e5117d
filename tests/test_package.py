"""Tests of what stands where: the names and arguments of the interface, and the package itself."""

import ast
import doctest
import importlib
import inspect
import unittest
from pathlib import Path

PACKAGE = Path(__file__).resolve().parent.parent / "weightkeepers"

# For each file its functions and classes with the names of their arguments (None: free).
INTERFACE = {
    "errors": {"Fault": None, "Malformed": None, "Refused": ["reason"], "NoText": ["at"]},
    "whole": {"is_integer": ["value"], "inverse": ["a", "p"], "binomial": ["n", "k"], "power": ["a", "k"]},
    "linear": {
        "is_word": ["value", "p", "n"],
        "add": ["v", "w", "p"],
        "scaled": ["v", "a", "p"],
        "dot": ["v", "w", "p"],
        "combine": ["rows", "weights", "width", "p"],
        "reduced": ["rows", "width", "p"],
        "kernel": ["rows", "width", "p"],
        "solve": ["rows", "width", "right", "p"],
        "coordinates": ["rows", "word", "p"],
    },
}


class Package(unittest.TestCase):
    def test_init_defines_nothing(self):
        text = (PACKAGE / "__init__.py").read_text(encoding="utf-8")
        self.assertEqual(ast.parse(text).body, [])

    def test_each_name_is_defined_in_its_file(self):
        for name, members in INTERFACE.items():
            tree = ast.parse((PACKAGE / f"{name}.py").read_text(encoding="utf-8"))
            defined = [part.name for part in tree.body if isinstance(part, (ast.FunctionDef, ast.ClassDef))]
            self.assertEqual([member for member in members if member not in defined], [])

    def test_names_of_arguments(self):
        for name, members in INTERFACE.items():
            module = importlib.import_module(f"weightkeepers.{name}")
            for member, arguments in members.items():
                if arguments is not None:
                    found = list(inspect.signature(getattr(module, member)).parameters)
                    self.assertEqual(found, arguments, member)

    def test_examples_of_the_readme(self):
        found = doctest.testfile(str(PACKAGE.parent / "README.md"), module_relative=False)
        self.assertGreater(found.attempted, 0)
        self.assertEqual(found.failed, 0)

    def test_only_python_files_in_the_package(self):
        found = [path.name for path in PACKAGE.iterdir() if path.suffix != ".py" and path.name != "__pycache__"]
        self.assertEqual(found, [])


if __name__ == "__main__":
    unittest.main()
