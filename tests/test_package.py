"""Tests of what stands where: the names and arguments of the interface, and the package itself."""

import ast
import doctest
import importlib
import inspect
import unittest
from pathlib import Path

PACKAGE = Path(__file__).resolve().parent.parent / "weightkeepers"

# For each file its functions and classes with the names of their arguments (None: free).
INTERFACE = {
    "errors": {"Fault": None, "Malformed": None, "Refused": ["reason"], "NoText": ["at"]},
    "whole": {"is_integer": ["value"], "inverse": ["a", "p"], "binomial": ["n", "k"], "power": ["a", "k"]},
    "linear": {
        "is_word": ["value", "p", "n"],
        "add": ["v", "w", "p"],
        "scaled": ["v", "a", "p"],
        "dot": ["v", "w", "p"],
        "combine": ["rows", "weights", "width", "p"],
        "reduced": ["rows", "width", "p"],
        "kernel": ["rows", "width", "p"],
        "solve": ["rows", "width", "right", "p"],
        "coordinates": ["rows", "word", "p"],
    },
    "words": {"weight": ["word"], "distance": ["v", "w"], "written": ["word"], "read_word": ["text", "p"]},
    "code": {"Code": ["p", "n", "rows"], "sum_of": ["a", "b"], "common_part": ["a", "b"], "read_code": ["text"]},
    "build": {
        "zero_code": ["p", "n"],
        "whole_code": ["p", "n"],
        "repetition_code": ["p", "n"],
        "zero_sum_code": ["p", "n"],
        "of_parity_checks": ["p", "n", "rows"],
        "direct_sum": ["a", "b"],
        "plotkin_sum": ["a", "b"],
        "punctured": ["code", "at"],
        "shortened": ["code", "at"],
        "extended": ["code"],
        "product_code": ["a", "b"],
    },
    "weights": {
        "weight_distribution": ["code"],
        "coset_distribution": ["code", "word"],
        "krawtchouk": ["p", "n", "j", "i"],
        "macwilliams": ["p", "n", "numbers"],
        "binomial_moment": ["numbers", "s"],
        "minimum_distance": ["code"],
        "minimum_words": ["code"],
        "ball_size": ["p", "n", "t"],
        "is_mds": ["code"],
        "is_perfect": ["code"],
        "griesmer_length": ["p", "k", "d"],
        "reaches_griesmer": ["code"],
    },
    "nearest": {
        "coset_leaders": ["code", "word"],
        "nearest_words": ["code", "word"],
        "distance_to": ["code", "word"],
        "cosets": ["code"],
        "covering_radius": ["code"],
        "count_decided": ["code"],
    },
    "monomial": {"Monomial": ["p", "places", "multiples"], "identity": ["p", "n"]},
    "forms": {
        "line": ["column", "p"],
        "mark": ["words", "n", "p"],
        "levels": ["code"],
        "least_table": ["code"],
        "form": ["code"],
    },
    "maps": {
        "alike": ["a", "b"],
        "find_map": ["a", "b"],
        "all_maps": ["a", "b"],
        "automorphisms": ["code"],
        "group_order": ["code"],
        "image": ["a", "images", "word"],
        "changed_weight": ["a", "images"],
        "extension": ["a", "images"],
    },
    "cyclic": {
        "times": ["a", "b", "p"],
        "divided": ["a", "b", "p"],
        "common_divisor": ["a", "b", "p"],
        "unit_polynomial": ["p", "n"],
        "factors_of_unit": ["p", "n"],
        "divisors_of_unit": ["p", "n"],
        "shifted": ["word"],
        "is_cyclic": ["code"],
        "cyclic_code": ["p", "n", "g"],
        "all_cyclic": ["p", "n"],
        "generator_polynomial": ["code"],
        "check_polynomial": ["code"],
    },
    "papers": {
        "distance_paper": ["code"],
        "pair_paper": ["a", "b"],
        "map_paper": ["a", "images"],
        "nearest_paper": ["code", "word"],
    },
    "checker": {
        "takes_distance": ["code", "paper"],
        "takes_pair": ["a", "b", "paper"],
        "takes_map": ["a", "images", "paper"],
        "takes_nearest": ["code", "word", "paper"],
    },
    "sheet": {"read_line": ["line"]},
    "replies": {
        "Reply": ["kind", "text", "data"],
        "reply_to": ["names", "line"],
        "defined": ["names", "line"],
        "is_right": ["names", "entry"],
    },
    "log": {
        "write_data": ["data"],
        "read_data": ["text"],
        "write_log": ["entries"],
        "read_log": ["text"],
        "first_wrong": ["entries"],
    },
    "console": {"Console": ["most"]},
}

# The modules of each chapter; those that the interface does not list stand with the first one.
CHAPTERS = (
    ("errors", "whole", "linear", "values", "numerals"),
    ("words", "code", "build"),
    ("weights",),
    ("nearest",),
    ("monomial", "forms", "maps"),
    ("cyclic",),
    ("papers", "checker"),
    ("sheet", "replies", "log", "console"),
)

# For each class the methods that its own body defines, with the names of their arguments behind `self`.
METHODS = {
    ("code", "Code"): {
        "__init__": ["p", "n", "rows"],
        "__eq__": ["other"],
        "__str__": [],
        "size": [],
        "holds": ["value"],
        "words": [],
        "dual": [],
        "checks": [],
        "syndrome": ["word"],
    },
    ("monomial", "Monomial"): {
        "__init__": ["p", "places", "multiples"],
        "__eq__": ["other"],
        "carried": ["word"],
        "code": ["code"],
        "after": ["other"],
        "undone": [],
    },
    ("replies", "Reply"): {"__init__": ["kind", "text", "data"], "__eq__": ["other"]},
    ("console", "Console"): {
        "__init__": ["most"],
        "__len__": [],
        "__iter__": [],
        "enter": ["line"],
        "names": [],
        "log": [],
    },
}


class Package(unittest.TestCase):
    def test_init_defines_nothing(self):
        text = (PACKAGE / "__init__.py").read_text(encoding="utf-8")
        self.assertEqual(ast.parse(text).body, [])

    def test_each_name_is_defined_in_its_file(self):
        for name, members in INTERFACE.items():
            tree = ast.parse((PACKAGE / f"{name}.py").read_text(encoding="utf-8"))
            defined = [part.name for part in tree.body if isinstance(part, (ast.FunctionDef, ast.ClassDef))]
            self.assertEqual([member for member in members if member not in defined], [])

    def test_names_of_arguments(self):
        for name, members in INTERFACE.items():
            module = importlib.import_module(f"weightkeepers.{name}")
            for member, arguments in members.items():
                if arguments is not None:
                    found = list(inspect.signature(getattr(module, member)).parameters)
                    self.assertEqual(found, arguments, member)

    def test_methods_are_defined_in_the_class_itself(self):
        for (name, member), methods in METHODS.items():
            body = vars(getattr(importlib.import_module(f"weightkeepers.{name}"), member))
            for method, arguments in methods.items():
                self.assertIn(method, body, member)
                self.assertEqual(list(inspect.signature(body[method]).parameters)[1:], arguments, method)

    def test_each_chapter_uses_only_those_before_it(self):
        places = {name: at for at, names in enumerate(CHAPTERS) for name in names}
        self.assertEqual(sorted([*places, "__init__"]), sorted(path.stem for path in PACKAGE.glob("*.py")))
        for name, at in places.items():
            for part in ast.parse((PACKAGE / f"{name}.py").read_text(encoding="utf-8")).body:
                if isinstance(part, ast.ImportFrom) and part.module.startswith("weightkeepers."):
                    self.assertLessEqual(places[part.module.split(".")[1]], at, name)

    def test_defaults(self):
        reply = inspect.signature(importlib.import_module("weightkeepers.replies").Reply).parameters
        self.assertEqual((reply["text"].default, reply["data"].default), ("", ()))
        most = inspect.signature(importlib.import_module("weightkeepers.console").Console).parameters["most"]
        self.assertEqual((most.default, most.kind), (300, inspect.Parameter.KEYWORD_ONLY))

    def test_examples_of_the_readme(self):
        found = doctest.testfile(str(PACKAGE.parent / "README.md"), module_relative=False)
        self.assertGreater(found.attempted, 0)
        self.assertEqual(found.failed, 0)

    def test_only_python_files_in_the_package(self):
        found = [path.name for path in PACKAGE.iterdir() if path.suffix != ".py" and path.name != "__pycache__"]
        self.assertEqual(found, [])


if __name__ == "__main__":
    unittest.main()
