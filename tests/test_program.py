"""Promise 2 at large: names, places and means of the whole program."""

import ast
import doctest
import importlib
import inspect
import unittest
from pathlib import Path

from refold.live import LivePage

TOP = Path(__file__).resolve().parent.parent
FILES = sorted((TOP / "refold").rglob("*.py"))
INTERFACE = {
    "refold.pages": {"length": ["line"], "fold": ["page", "widths"]},
    "refold.effects": {
        "effect": ["widths"],
        "same_effect": ["first", "second"],
        "commute": ["first", "second"],
    },
    "refold.choices": {
        "fewest": ["widths"],
        "count_choices": ["widths"],
        "nth_choice": ["widths", "number"],
        "choice_number": ["widths"],
    },
    "refold.parting": {"parting_line": ["first", "second"]},
    "refold.learning": {
        "test_page": ["limit"],
        "read_effect": ["limit", "folded"],
    },
    "refold.counting": {
        "count_effects": ["limit"],
        "effects": ["limit"],
        "effect_number": ["limit", "widths"],
    },
    "refold.scripts": {
        "run_script": ["page", "commands"],
        "script_effect": ["commands"],
        "repeated_effect": ["commands", "times"],
    },
    "refold.origins": {
        "count_origins": ["page", "widths"],
        "origins": ["page", "widths"],
        "sure_breaks": ["page", "widths"],
    },
    "refold.texts": {"show_page": ["page"], "show_widths": ["widths"]},
    "refold.readings": {"read_page": ["text"], "read_widths": ["text"]},
}
# The parts of Python's library that compute and do nothing else.
LIBRARY = {"heapq", "math", "itertools", "collections", "__future__"}
BARRED = {
    "open", "input", "print", "exec", "eval", "compile", "__import__",
    "globals", "locals", "vars", "breakpoint",
}


class InterfaceTest(unittest.TestCase):
    def test_names_arguments_and_places(self):
        for module_name, functions in INTERFACE.items():
            module = importlib.import_module(module_name)
            for name, arguments in functions.items():
                function = getattr(module, name)
                self.assertEqual(function.__module__, module_name)
                parameters = inspect.signature(function).parameters.values()
                self.assertEqual([p.name for p in parameters], arguments)
                for parameter in parameters:
                    self.assertIs(parameter.kind, parameter.POSITIONAL_OR_KEYWORD)
                    self.assertIs(parameter.default, parameter.empty)

    def test_the_class_and_what_stands_in_it(self):
        self.assertEqual(LivePage.__module__, "refold.live")
        own = vars(LivePage)
        for name in ("page", "widths", "effect"):
            self.assertIsInstance(own[name], property)
            self.assertIsNone(own[name].fset)
        self.assertIsInstance(own["read"], classmethod)
        for name, wanted in (
            ("__init__", "(self, page)"),
            ("__eq__", "(self, other)"),
            ("fold", "(self, *widths)"),
            ("undo", "(self)"),
            ("lines", "(self)"),
        ):
            self.assertTrue(inspect.isfunction(own[name]), name)
            self.assertEqual(str(inspect.signature(own[name])), wanted)
        found = inspect.signature(LivePage.read)
        self.assertEqual(str(found), "(text)")


class MeansTest(unittest.TestCase):
    def test_there_are_files(self):
        self.assertIn(TOP / "refold" / "__init__.py", FILES)

    def test_no_clock_no_random_numbers_no_files(self):
        for path in FILES:
            for node in ast.walk(ast.parse(path.read_text())):
                if isinstance(node, ast.Import):
                    self.fail(f"{path}: import of a whole module")
                if isinstance(node, ast.ImportFrom):
                    self.assertEqual(node.level, 0, path)
                    top = node.module.split(".")[0]
                    self.assertIn(top, LIBRARY | {"refold"}, path)
                if isinstance(node, ast.Name):
                    self.assertNotIn(node.id, BARRED, path)


class ReadmeTest(unittest.TestCase):
    def test_examples(self):
        found = doctest.testfile(str(TOP / "README.md"), module_relative=False)
        self.assertGreater(found.attempted, 0)
        self.assertEqual(found.failed, 0)


if __name__ == "__main__":
    unittest.main()
