"""Point 21: the members of the groups at a turn."""

import copy
import random
import unittest
from itertools import permutations

from belfry.members import members
from made import all_marks, members_by_the_words, near_trees, quietings, row, rules, sayings

LIVE = (("is", "env", ("live",)),)
# Live ones go to the row (0,) and on to (1,); what has no host is taken by the tree's own row.
TREE = row(
    by=("env",),
    rows=(
        row(LIVE, True, ("env", "zone"), rows=(row((("is", "host", ("db1",)),), by=("host", "rack")),)),
        row((("there", "host", ()),), False, ("zone", "host")),
    ),
)
DB1 = (("env", "live"), ("host", "db1"))
DB2 = (("env", "live"), ("host", "db2"), ("zone", "n"))
OLD = (("env", "old"),)


def saying(number, marks, weight=0, came=0, gone=None):
    return (number, marks, weight, came, gone)


class MembersTest(unittest.TestCase):
    def assert_members(self, told, quieted, greater, turn, found):
        for order in permutations(told):
            for quiet_order in permutations(quieted):
                with self.subTest(sayings=order, quietings=quiet_order, rules=greater, turn=turn):
                    self.assertEqual(members(TREE, list(order), list(quiet_order), greater, turn), found)

    def test_no_sayings(self):
        self.assert_members([], [], [], 5, [])
        self.assert_members([], [(1, (), 0, 9)], [((), (), ())], 5, [])

    def test_one_saying_in_several_groups(self):
        self.assert_members([saying(4, DB1)], [], [], 5, [((0, 0), ("db1", ""), [4]), ((1,), ("", "db1"), [4])])
        self.assert_members([saying(4, DB2)], [], [], 5, [((0,), ("live", "n"), [4]), ((1,), ("n", "db2"), [4])])

    def test_the_trees_own_row(self):
        self.assert_members([saying(2, OLD)], [], [], 5, [((), ("old",), [2])])
        self.assert_members([saying(2, ())], [], [], 5, [((), ("",), [2])])
        self.assertEqual(members(row(), [saying(2, DB1), saying(1, OLD)], [], [], 5), [((), (), [1, 2])])

    def test_sorted_by_place_then_by_key(self):
        told = [saying(1, DB2), saying(2, OLD), saying(3, DB1), saying(4, ()), saying(5, (("host", "a1"), ("zone", "a")))]
        found = [
            ((), ("",), [4]),
            ((), ("old",), [2]),
            ((0,), ("live", "n"), [1]),
            ((0, 0), ("db1", ""), [3]),
            ((1,), ("", "db1"), [3]),
            ((1,), ("a", "a1"), [5]),
            ((1,), ("n", "db2"), [1]),
        ]
        self.assert_members(told, [], [], 5, found)

    def test_places_are_sorted_as_numbers(self):
        many = row(rows=[row((("is", "host", ("h" + str(k),)),)) for k in range(12)])
        told = [saying(k + 1, (("host", "h" + str(k)),)) for k in range(12)]
        self.assertEqual([group[0] for group in members(many, told, [], [], 0)], [(k,) for k in range(12)])

    def test_rising_numbers_in_whatever_order(self):
        told = [saying(10, OLD), saying(9, (("env", "old"), ("rack", "a"))), saying(100, (("env", "old"), ("rack", "b"))), saying(2, OLD)]
        self.assert_members(told, [], [], 5, [((), ("old",), [2, 9, 10, 100])])

    def test_marks_whose_names_are_not_in_by_make_no_other_group(self):
        told = [saying(1, OLD + (("rack", "a"),)), saying(2, OLD + (("rack", "b"), ("zone", "n")))]
        self.assert_members(told, [], [], 5, [((), ("old",), [1, 2])])

    def test_only_those_that_stand(self):
        told = [saying(1, OLD, came=3, gone=6), saying(2, OLD, came=5), saying(3, OLD, came=4, gone=4), saying(4, (), came=6, gone=7)]
        for turn, numbers in ((2, []), (3, [1]), (4, [1]), (5, [1, 2]), (6, [2]), (7, [2])):
            blank = [((), ("",), [4])] if turn == 6 else []
            self.assert_members(told, [], [], turn, blank + ([((), ("old",), numbers)] if numbers else []))

    def test_quieted_by_a_quieting(self):
        told = [saying(1, DB1), saying(2, DB2), saying(3, OLD)]
        db1 = [((0, 0), ("db1", ""), [1]), ((1,), ("", "db1"), [1])]
        db2 = [((0,), ("live", "n"), [2]), ((1,), ("n", "db2"), [2])]
        old = [((), ("old",), [3])]
        both = [old[0], db2[0], db1[0], db1[1], db2[1]]
        quieted = [(7, LIVE, 4, 6), (3, (("there", "zone", ()),), 5, 8), (5, (), 9, 9), (6, (), 12, 10)]
        for turn, found in ((3, both), (4, old), (5, old), (6, old + db1), (7, old + db1), (8, both), (9, both), (11, both)):
            self.assert_members(told, quieted, [], turn, found)

    def test_quieted_by_a_greater_saying(self):
        rule = (LIVE, (("there", "env", ()),), ())
        told = [saying(1, DB1, 5, came=2, gone=6), saying(2, OLD, 4), saying(3, OLD + (("zone", "n"),), 5)]
        for turn, numbers in ((1, [2, 3]), (2, [3]), (5, [3]), (6, [2, 3])):
            found = [group for group in members(TREE, told, [], [rule], turn) if group[0] == ()]
            self.assertEqual(found, [((), ("old",), numbers)])

    def test_a_greater_one_that_is_quieted_itself_quiets(self):
        told = [saying(1, OLD, 1), saying(2, OLD + (("zone", "n"),), 2), saying(3, OLD + (("zone", "m"),), 3)]
        self.assert_members(told, [], [((), (), ())], 5, [((), ("old",), [3])])
        self.assert_members(told, [(1, (("is", "zone", ("m",)),), 0, 9)], [((), (), ())], 5, [])

    def test_some_of_a_group_quieted(self):
        told = [saying(1, OLD), saying(2, OLD + (("zone", "n"),)), saying(3, OLD + (("zone", "m"),))]
        self.assert_members(told, [(1, (("is", "zone", ("n",)),), 0, 9)], [], 5, [((), ("old",), [1, 3])])

    def test_the_kinds(self):
        found = members(TREE, [saying(1, DB1), saying(2, OLD)], [], [], 5)
        self.assertIs(type(found), list)
        for group in found:
            self.assertEqual([type(part) for part in group], [tuple, tuple, list])
            self.assertIs(type(group), tuple)

    def test_what_comes_later_does_not_reach_back(self):
        """Of 4 and 31: the members go by the records alone, whether things stand there or not."""
        told = [saying(1, DB1), saying(2, OLD, came=3, gone=8)]
        later = [saying(3, DB2, 9, came=20), saying(4, OLD, 9, came=21, gone=22)]
        for turn in range(12):
            ahead = members(TREE, told, [], [((), (), ())], turn)
            self.assertEqual(members(TREE, later + told, [(1, (), 20, 30)], [((), (), ())], turn), ahead)

    def test_made(self):
        chance = random.Random("members")
        marks = all_marks()
        found = 0
        for tree in near_trees("members", 60):
            told, quieted, greater = sayings(chance, 12, marks, 10), quietings(chance, 3, 10), rules(chance)
            for turn in range(0, 14, 2):
                with self.subTest(tree=tree, sayings=told, quietings=quieted, rules=greater, turn=turn):
                    groups = members(tree, told, quieted, greater, turn)
                    self.assertEqual(groups, members_by_the_words(tree, told, quieted, greater, turn))
                    self.assertTrue(all(group[2] for group in groups))
                    found += len(groups)
        self.assertGreater(found, 1000)


class OwnTest(unittest.TestCase):
    def test_nothing_handed_in_is_changed_and_what_is_told_is_the_askers_own(self):
        handed = (TREE, [saying(3, OLD), saying(1, OLD), saying(2, DB1)], [(2, LIVE, 7, 9), (1, (), 8, 9)], [((), LIVE, ("env",))], 5)
        copied = copy.deepcopy(handed)
        found = members(*handed)
        kept = copy.deepcopy(found)
        self.assertEqual(handed, copied)
        for group in found:
            group[2].append(99)
        found.clear()
        self.assertEqual(members(*handed), kept)

    def test_one_saying_in_two_groups_has_two_lists(self):
        found = members(TREE, [saying(2, DB1)], [], [], 5)
        found[0][2].clear()
        self.assertEqual(found[1][2], [2])


if __name__ == "__main__":
    unittest.main()
