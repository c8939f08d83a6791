"""Points 1 and 2: what all of the program keeps to."""

import ast
import copy
import unittest
from pathlib import Path

import belfry
from belfry.askings import meets, meets_all
from belfry.marks import is_name, is_value, value_in

FILES = sorted(Path(belfry.__file__).parent.glob("**/*.py"))
REACHING_OUT = ("open", "input", "print", "eval", "exec", "compile", "__import__", "hash", "id")

MARKS = (("env", "live"), ("host", "db7"), ("zone", "a1"))
ASKINGS = (
    ("is", "host", ("web1", "db7", "db1")),
    ("no", "env", ("trial", "old")),
    ("there", "zone", ()),
    ("lacks", "rack", ()),
)


class NoClockChanceOrFilesTest(unittest.TestCase):
    def test_there_are_files_to_look_at(self):
        self.assertIn("marks.py", [file.name for file in FILES])

    def test_only_the_own_modules_are_imported(self):
        for file in FILES:
            for node in ast.walk(ast.parse(file.read_text(encoding="utf-8"))):
                with self.subTest(file=file.name):
                    self.assertNotIsInstance(node, ast.Import)
                    if isinstance(node, ast.ImportFrom):
                        self.assertEqual(node.level, 0)
                        self.assertEqual(node.module.split(".")[0], "belfry")

    def test_no_name_that_reaches_out(self):
        for file in FILES:
            for node in ast.walk(ast.parse(file.read_text(encoding="utf-8"))):
                if isinstance(node, ast.Name):
                    with self.subTest(file=file.name, name=node.id):
                        self.assertNotIn(node.id, REACHING_OUT)


class HandedInTest(unittest.TestCase):
    def test_what_is_handed_in_stays_as_it_was(self):
        marks = copy.deepcopy(MARKS)
        askings = copy.deepcopy(ASKINGS)
        value_in(marks, "host")
        value_in(marks, "rack")
        for asking in askings:
            meets(asking, marks)
        meets_all(askings, marks)
        self.assertEqual(marks, MARKS)
        self.assertEqual(askings, ASKINGS)

    def test_nothing_asked_between_changes_what_is_told(self):
        others = (("env", "trial"), ("host", "web2"), ("rack", "r9"))

        def told(marks):
            return (
                [is_name(name) for name, _ in marks],
                [is_value(value) for _, value in marks],
                [value_in(marks, name) for name in ("env", "host", "rack", "zone")],
                [meets(asking, marks) for asking in ASKINGS],
                meets_all(ASKINGS, marks),
            )

        first = told(MARKS)
        other = told(others)
        self.assertNotEqual(first, other)
        self.assertEqual(told(MARKS), first)
        self.assertEqual(told(others), other)


if __name__ == "__main__":
    unittest.main()
