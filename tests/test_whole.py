"""Points 1 and 2: what all of the program keeps to."""

import ast
import copy
import unittest
from pathlib import Path

import belfry
from belfry.anew import anew
from belfry.askings import meets, meets_all
from belfry.calls import hand_of
from belfry.cases import bears, names_asked, shown, values_with
from belfry.closing import closed
from belfry.errors import HouseError
from belfry.hours import hours
from belfry.marks import is_name, is_value, value_in
from belfry.members import members
from belfry.quieting import ground, in_force, stands
from belfry.rotas import hand_on, is_away, swapped, turn_of
from belfry.trees import groups_of, key_of, places, row_at, taken
from belfry.treetexts import read_tree, shown_tree
from belfry.wordings import read_askings, read_marks, shown_askings, shown_marks
from made import row, spoil

FILES = sorted(Path(belfry.__file__).parent.glob("**/*.py"))
REACHING_OUT = ("open", "input", "print", "eval", "exec", "compile", "__import__", "hash", "id")

MARKS = (("env", "live"), ("host", "db7"), ("zone", "a1"))
OTHERS = (("env", "trial"), ("host", "web2"), ("rack", "r9"))
ASKINGS = (
    ("is", "host", ("web1", "db7", "db1")),
    ("no", "env", ("trial", "old")),
    ("there", "zone", ()),
    ("lacks", "rack", ()),
)
BELOW = row(ASKINGS, True, ("host", "rack"), 5, 60, ("day", "night"), (row(ASKINGS[1:]), row(ASKINGS[:1], True)))
TREE = row(ASKINGS[:1], False, ("env",), rows=(BELOW, row(ASKINGS[3:], True), row()))
TEXTS = ["0 on - 1 1 - -", "1 off a 5 60 b,b c=x|y", "2 on - 1 1 - c!x d+"]
ROTA = (("ann", "bob", "cyd"), 5, 4)
SWAPS = [("ann", "bob", 7, 12), ("cyd", "ann", 3, 20)]
ABSENCES = [("bob", 8, 10), ("cyd", 0, 6), ("bob", 2, 9)]
SAYINGS = [(3, MARKS, 1, 0, None), (2, OTHERS, 5, 2, 9), (1, MARKS, 2, 1, None)]
QUIETINGS = [(2, ASKINGS, 5, 12), (1, (), 7, 9)]
RULES = [((), ASKINGS, ("env", "zone"))]
STATES = [((), ("live",), [1, 3], 0, 4, None), ((1,), (), [2], 1, 30, 2)]
THERE = [((), ("live",), [3, 4]), ((0,), ("db7", ""), [3]), ((1,), (), [2])]
ROTAS = [("day", ROTA), ("night", (("dan", "ann"), 0, 3))]
NAMED_SWAPS = [("day",) + swap for swap in SWAPS]
RECORDS = (SAYINGS, QUIETINGS, NAMED_SWAPS, ABSENCES, [(15, (), ("live",)), (14, (1,), ())])

# Each function with things to hand in, wrong ones among them.
CALLS = [
    (is_name, ("host",)),
    (is_name, ("db7",)),
    (is_value, ("db7",)),
    (is_value, ("",)),
    (value_in, (MARKS, "host")),
    (value_in, (MARKS, "rack")),
    (meets, (ASKINGS[0], MARKS)),
    (meets, (ASKINGS[2], OTHERS)),
    (meets_all, (ASKINGS, MARKS)),
    (meets_all, (ASKINGS, OTHERS)),
    (shown_marks, (MARKS,)),
    (shown_askings, (ASKINGS,)),
    (read_marks, ("zone=a1 env=live",)),
    (read_marks, ("zone=a1 zone=b2",)),
    (read_askings, ("a=x|y b- c+",)),
    (read_askings, ("a=x|x",)),
    (places, (TREE,)),
    (row_at, (TREE, (0, 1))),
    (row_at, (TREE, (0, 2))),
    (taken, (TREE, MARKS)),
    (taken, (TREE, OTHERS)),
    (key_of, (BELOW, MARKS)),
    (groups_of, (TREE, MARKS)),
    (groups_of, (TREE, OTHERS)),
    (shown_tree, (TREE,)),
    (read_tree, (TEXTS,)),
    (read_tree, (TEXTS + ["3 on - 0 1 - -"],)),
    (values_with, (TREE, "host")),
    (names_asked, (TREE,)),
    (bears, (TREE, (2,), ("caught", (1,)))),
    (bears, (TREE, (), ("caught", (2,)))),
    (shown, (TREE, ())),
    (shown, (TREE, (0, 0))),
    (shown, (TREE, (2, 0))),
    (turn_of, (ROTA, 8)),
    (swapped, ("ann", SWAPS, 8)),
    (is_away, ("bob", ABSENCES, 8)),
    (hand_on, (ROTA, SWAPS, ABSENCES, 8)),
    (hours, (ROTA, SWAPS, ABSENCES, 0, 30)),
    (stands, (SAYINGS[1], 8)),
    (in_force, (QUIETINGS[0], 8)),
    (ground, (SAYINGS[0], SAYINGS, QUIETINGS, RULES, 8)),
    (ground, (SAYINGS[0], SAYINGS, QUIETINGS, RULES, 2)),
    (members, (TREE, SAYINGS, QUIETINGS, RULES, 8)),
    (members, (TREE, SAYINGS, QUIETINGS, RULES, 3)),
    (closed, (TREE, STATES, THERE, [((1,), ()), ((), ("old",))], 5)),
    (closed, (TREE, STATES, THERE, [], 3)),
    (hand_of, (BELOW, 0, 8, ROTAS, NAMED_SWAPS, ABSENCES, "head")),
    (hand_of, (BELOW, 2, 8, ROTAS, NAMED_SWAPS, ABSENCES, "head")),
    (anew, (TREE, ROTAS, RULES, "head", RECORDS, 90)),
    (anew, (TREE, ROTAS, RULES, "head", RECORDS, 1)),
]


class NoClockChanceOrFilesTest(unittest.TestCase):
    def test_there_are_files_to_look_at(self):
        self.assertIn("marks.py", [file.name for file in FILES])

    def test_only_the_own_modules_are_imported(self):
        for file in FILES:
            for node in ast.walk(ast.parse(file.read_text(encoding="utf-8"))):
                with self.subTest(file=file.name):
                    self.assertNotIsInstance(node, ast.Import)
                    if isinstance(node, ast.ImportFrom):
                        self.assertEqual(node.level, 0)
                        self.assertEqual(node.module.split(".")[0], "belfry")

    def test_no_name_that_reaches_out(self):
        for file in FILES:
            for node in ast.walk(ast.parse(file.read_text(encoding="utf-8"))):
                if isinstance(node, ast.Name):
                    with self.subTest(file=file.name, name=node.id):
                        self.assertNotIn(node.id, REACHING_OUT)


class HandedInTest(unittest.TestCase):
    """Point 2, of each function: what is handed in stays, what is told is the asker's own."""

    def refused_or_told(self, function, handed):
        try:
            return function(*handed)
        except HouseError as refusal:
            return (type(refusal), vars(refusal))

    def test_what_is_handed_in_stays_as_it_was(self):
        for function, handed in CALLS:
            with self.subTest(function=function.__name__, handed=handed):
                copied = copy.deepcopy(handed)
                self.refused_or_told(function, copied)
                self.assertEqual(copied, handed)

    def test_what_the_asker_does_to_what_is_told_changes_nothing(self):
        for function, handed in CALLS:
            with self.subTest(function=function.__name__, handed=handed):
                told = self.refused_or_told(function, handed)
                kept = copy.deepcopy(told)
                spoil(told)
                self.assertEqual(self.refused_or_told(function, handed), kept)

    def test_nothing_asked_between_changes_what_is_told(self):
        told = [copy.deepcopy(self.refused_or_told(function, handed)) for function, handed in CALLS]
        for order in (CALLS[::-1], CALLS[::2], CALLS[1::2]):
            for function, handed in order:
                self.refused_or_told(function, handed)
        again = [self.refused_or_told(function, handed) for function, handed in CALLS]
        self.assertEqual(again, told)


if __name__ == "__main__":
    unittest.main()
