"""Points 8 to 11: the places of a tree, the marks taken there, and their groups."""

import unittest

from belfry.askings import meets_all
from belfry.errors import NoPlace
from belfry.trees import groups_of, key_of, places, row_at, taken
from made import all_marks, row, trees

LIVE = (("is", "env", ("live",)),)
DB = (("is", "host", ("db1", "db2")),)
NO_ZONE = (("lacks", "zone", ()),)
# The tree's own askings and on are not looked at, so none of these marks meets its askings.
NEVER = (("there", "a", ()), ("lacks", "a", ()))

ONE_ROW = row(NEVER, by=("env",))
DEEP = row(
    NEVER,
    rows=(
        row(LIVE, True, by=("host",), rows=(row(DB), row(NO_ZONE, True, by=("zone", "env")), row(DB))),
        row(DB, by=("env", "host", "rack")),
        row(rows=(row(LIVE, rows=(row(DB, rows=(row(NO_ZONE),)),)),)),
        row(LIVE),
    ),
)
PLACES = [
    (), (0,), (0, 0), (0, 1), (0, 2), (1,), (2,), (2, 0), (2, 0, 0), (2, 0, 0, 0), (3,),
]


def may_take(tree, place, marks):
    """Point 10 told backwards: what must hold of a place that takes these marks."""
    for n in range(len(place)):
        beside = row_at(tree, place[:n])[6]
        if not meets_all(beside[place[n]][0], marks):
            return False
        if any(not one[1] and meets_all(one[0], marks) for one in beside[: place[n]]):
            return False
    return not any(meets_all(one[0], marks) for one in row_at(tree, place)[6])


class PlacesTest(unittest.TestCase):
    def test_one_row(self):
        self.assertEqual(places(ONE_ROW), [()])
        self.assertEqual(row_at(ONE_ROW, ()), ONE_ROW)

    def test_each_ahead_of_those_below_it(self):
        self.assertEqual(places(DEEP), PLACES)

    def test_five_rows_and_four_below(self):
        wide = row(rows=[row(by=(name,)) for name in "abcde"])
        self.assertEqual(places(wide), [(), (0,), (1,), (2,), (3,), (4,)])
        self.assertEqual([row_at(wide, (k,))[2] for k in range(5)], [("a",), ("b",), ("c",), ("d",), ("e",)])

    def test_kinds(self):
        told = places(DEEP)
        self.assertIs(type(told), list)
        self.assertEqual({type(place) for place in told}, {tuple})

    def test_what_is_told_is_the_askers_own(self):
        told = places(DEEP)
        told.clear()
        self.assertEqual(places(DEEP), PLACES)

    def test_made_trees(self):
        for tree in trees("places", 50):
            told = places(tree)
            with self.subTest(tree=tree):
                self.assertEqual(told, sorted(told))
                self.assertEqual(len(set(told)), len(told))
                for place in told:
                    found = tree
                    for k in place:
                        found = found[6][k]
                    self.assertEqual(row_at(tree, place), found)
                    below = [place + (k,) for k in range(6)]
                    self.assertEqual([one for one in below if one in told], below[: len(found[6])])


class RowAtTest(unittest.TestCase):
    def test_each_row(self):
        self.assertEqual(row_at(DEEP, ()), DEEP)
        self.assertEqual(row_at(DEEP, (0,)), DEEP[6][0])
        self.assertEqual(row_at(DEEP, (0, 1)), DEEP[6][0][6][1])
        self.assertEqual(row_at(DEEP, (2, 0, 0, 0)), row(NO_ZONE))
        self.assertEqual(row_at(DEEP, (3,)), row(LIVE))

    def test_a_place_that_the_tree_has_not(self):
        for tree, place in (
            (ONE_ROW, (0,)),
            (ONE_ROW, (0, 0)),
            (DEEP, (4,)),
            (DEEP, (10**9,)),
            (DEEP, (0, 3)),
            (DEEP, (1, 0)),
            (DEEP, (2, 1)),
            (DEEP, (2, 0, 0, 1)),
            (DEEP, (2, 0, 0, 0, 0)),
            (DEEP, (4, 0)),
            (DEEP, (0, 0, 0, 0, 0, 0, 0)),
            (DEEP, (-1,)),
            (DEEP, (0, -3)),
        ):
            with self.subTest(place=place):
                with self.assertRaises(NoPlace):
                    row_at(tree, place)


class TakenTest(unittest.TestCase):
    def assert_taken(self, tree, marks, told):
        with self.subTest(marks=marks):
            self.assertEqual(taken(tree, marks), told)

    def test_the_trees_own_row_where_there_is_no_other(self):
        self.assert_taken(ONE_ROW, (), [()])
        self.assert_taken(ONE_ROW, (("env", "live"),), [()])

    def test_the_trees_own_row_where_no_row_is_met(self):
        tree = row(rows=(row(LIVE), row(DB, True)))
        self.assert_taken(tree, (), [()])
        self.assert_taken(tree, (("env", "old"), ("host", "web")), [()])

    def test_own_askings_and_on_of_the_tree_are_not_looked_at(self):
        for on in (True, False):
            self.assert_taken(row(NEVER, on), (), [()])
            self.assert_taken(row(NEVER, on, rows=(row(LIVE),)), (("env", "live"),), [(0,)])

    def test_on_false_keeps_them_from_the_rows_beside(self):
        both = (("env", "live"), ("host", "db1"))
        self.assert_taken(row(rows=(row(LIVE, False), row(DB, False))), both, [(0,)])
        self.assert_taken(row(rows=(row(LIVE, True), row(DB, False))), both, [(0,), (1,)])
        self.assert_taken(row(rows=(row(LIVE, True), row(DB, True))), both, [(0,), (1,)])
        self.assert_taken(row(rows=(row(LIVE, False), row(DB, True))), both, [(0,)])

    def test_on_false_of_a_row_that_is_not_met_keeps_nothing(self):
        self.assert_taken(row(rows=(row(LIVE, False), row(DB))), (("host", "db2"),), [(1,)])

    def test_several_with_on_up_to_the_first_without(self):
        tree = row(rows=(row((), True), row(LIVE, True), row((), True), row(DB), row((), True)))
        self.assert_taken(tree, (("host", "db1"),), [(0,), (2,), (3,)])
        self.assert_taken(tree, (("env", "live"),), [(0,), (1,), (2,), (4,)])
        self.assert_taken(tree, (("env", "live"), ("host", "db1")), [(0,), (1,), (2,), (3,)])

    def test_on_of_a_row_below_says_nothing_of_the_rows_beside_those_above_it(self):
        tree = row(rows=(row(LIVE, True, rows=(row((), False), row((), False))), row(DB)))
        self.assert_taken(tree, (("env", "live"), ("host", "db1")), [(0, 0), (1,)])
        tree = row(rows=(row(LIVE, False, rows=(row((), True), row((), True))), row(DB)))
        self.assert_taken(tree, (("env", "live"), ("host", "db1")), [(0, 0), (0, 1)])

    def test_a_row_takes_what_none_of_its_rows_meets(self):
        self.assert_taken(DEEP, (("env", "live"), ("zone", "n")), [(0,), (2, 0)])
        self.assert_taken(DEEP, (("env", "old"), ("zone", "n")), [(2,)])

    def test_several_depths(self):
        self.assert_taken(DEEP, (("env", "live"),), [(0, 1), (2, 0)])
        self.assert_taken(DEEP, (("env", "live"), ("host", "db1")), [(0, 0), (1,)])
        tree = row(rows=DEEP[6][:1] + DEEP[6][2:])
        self.assert_taken(tree, (("env", "live"), ("host", "db1")), [(0, 0), (1, 0, 0, 0)])
        self.assert_taken(tree, (("env", "live"), ("host", "db1"), ("zone", "n")), [(0, 0), (1, 0, 0)])

    def test_askings_of_several_names(self):
        tree = row(rows=(row(LIVE + DB + NO_ZONE, True), row(LIVE + (("no", "host", ("db1",)),))))
        self.assert_taken(tree, (("env", "live"), ("host", "db1")), [(0,)])
        self.assert_taken(tree, (("env", "live"), ("host", "db2")), [(0,), (1,)])
        self.assert_taken(tree, (("env", "live"), ("host", "db2"), ("zone", "n")), [(1,)])
        self.assert_taken(tree, (("env", "live"),), [(1,)])
        self.assert_taken(tree, (("env", "old"), ("host", "db1")), [()])

    def test_what_is_told_is_the_askers_own(self):
        told = taken(DEEP, (("env", "live"),))
        self.assertIs(type(told), list)
        told.append((9,))
        self.assert_taken(DEEP, (("env", "live"),), [(0, 1), (2, 0)])

    def test_made_trees_with_all_marks(self):
        for tree in trees("taken", 40):
            for marks in all_marks():
                told = [place for place in places(tree) if may_take(tree, place, marks)]
                self.assert_taken(tree, marks, told)
                self.assertGreaterEqual(len(told), 1)


class GroupsTest(unittest.TestCase):
    MARKS = (("env", "live"), ("host", "db1"), ("zone", "n"))

    def test_key(self):
        for by, key in (
            ((), ()),
            (("env",), ("live",)),
            (("zone", "env"), ("n", "live")),
            (("env", "zone"), ("live", "n")),
            (("rack",), ("",)),
            (("rack", "host", "level", "env"), ("", "db1", "", "live")),
        ):
            with self.subTest(by=by):
                self.assertEqual(key_of(row(by=by), self.MARKS), key)
                self.assertEqual(key_of(row(by=by), ()), ("",) * len(by))
                self.assertIs(type(key_of(row(by=by), self.MARKS)), tuple)

    def test_key_goes_by_the_rows_own_by(self):
        self.assertEqual(key_of(row(LIVE, by=("env",), chain=("host",), rows=(row(by=("zone",)),)), self.MARKS), ("live",))

    def test_groups(self):
        self.assertEqual(groups_of(ONE_ROW, self.MARKS), [((), ("live",))])
        self.assertEqual(groups_of(ONE_ROW, ()), [((), ("",))])
        self.assertEqual(groups_of(DEEP, self.MARKS), [((0, 0), ()), ((1,), ("live", "db1", ""))])
        self.assertEqual(groups_of(DEEP, (("env", "live"),)), [((0, 1), ("", "live")), ((2, 0), ())])

    def test_what_is_told_is_the_askers_own(self):
        told = groups_of(DEEP, self.MARKS)
        self.assertIs(type(told), list)
        self.assertEqual({type(group) for group in told}, {tuple})
        told.pop()
        self.assertEqual(len(groups_of(DEEP, self.MARKS)), 2)

    def test_made_trees(self):
        for tree in trees("groups", 10):
            for marks in all_marks():
                with self.subTest(marks=marks):
                    values = dict(marks)
                    told = [
                        (place, tuple(values.get(name, "") for name in row_at(tree, place)[2]))
                        for place in taken(tree, marks)
                    ]
                    self.assertEqual(groups_of(tree, marks), told)


if __name__ == "__main__":
    unittest.main()
