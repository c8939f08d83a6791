"""Point 6: which marks meet an asking, and which a tuple of askings."""

import unittest
from itertools import permutations, product

from belfry.askings import meets, meets_all

NAMES = ("a", "ab", "b")
VALUES = ("x", "xy", "y")
# Names and values that begin alike, so that one is not taken for the other.
ALL_MARKS = [
    tuple((name, value) for name, value in zip(NAMES, told) if value is not None)
    for told in product(VALUES + (None,), repeat=len(NAMES))
]
ALL_VALUES = [told for n in (1, 2, 3) for told in permutations(VALUES, n)]


class AskingTest(unittest.TestCase):
    def assert_told(self, asking, marks, truth):
        with self.subTest(asking=asking, marks=marks):
            self.assertIs(meets(asking, marks), truth)


class EachWordTest(AskingTest):
    MARKS = (("env", "live"), ("host", "db7"))

    def test_is(self):
        self.assert_told(("is", "env", ("live",)), self.MARKS, True)
        self.assert_told(("is", "env", ("trial",)), self.MARKS, False)
        self.assert_told(("is", "env", ("db7",)), self.MARKS, False)
        self.assert_told(("is", "zone", ("live",)), self.MARKS, False)
        self.assert_told(("is", "env", ("live",)), (), False)

    def test_is_with_each_number_of_values_in_each_order(self):
        for told in permutations(("live", "trial", "old")):
            self.assert_told(("is", "env", told), self.MARKS, True)
            self.assert_told(("is", "host", told), self.MARKS, False)
            for n in (1, 2):
                self.assert_told(("is", "env", told[:n]), self.MARKS, "live" in told[:n])

    def test_is_asks_for_the_whole_value(self):
        for value in ("liv", "l", "lives", "ive", "alive"):
            self.assert_told(("is", "env", (value,)), self.MARKS, False)
        self.assert_told(("is", "env", ("li", "ve")), self.MARKS, False)

    def test_no(self):
        self.assert_told(("no", "env", ("live",)), self.MARKS, False)
        self.assert_told(("no", "env", ("trial",)), self.MARKS, True)
        self.assert_told(("no", "env", ("trial", "live", "old")), self.MARKS, False)

    def test_no_is_met_where_the_name_stands_not(self):
        self.assert_told(("no", "zone", ("live",)), self.MARKS, True)
        self.assert_told(("no", "en", ("live",)), self.MARKS, True)
        self.assert_told(("no", "env", ("live",)), (), True)

    def test_there(self):
        self.assert_told(("there", "env", ()), self.MARKS, True)
        self.assert_told(("there", "host", ()), self.MARKS, True)
        self.assert_told(("there", "zone", ()), self.MARKS, False)
        self.assert_told(("there", "envs", ()), self.MARKS, False)
        self.assert_told(("there", "live", ()), self.MARKS, False)
        self.assert_told(("there", "env", ()), (), False)

    def test_lacks(self):
        self.assert_told(("lacks", "env", ()), self.MARKS, False)
        self.assert_told(("lacks", "host", ()), self.MARKS, False)
        self.assert_told(("lacks", "zone", ()), self.MARKS, True)
        self.assert_told(("lacks", "envs", ()), self.MARKS, True)
        self.assert_told(("lacks", "live", ()), self.MARKS, True)
        self.assert_told(("lacks", "env", ()), (), True)


class AllMarksTest(AskingTest):
    def test_is_and_no(self):
        for marks, name, values in product(ALL_MARKS, NAMES, ALL_VALUES):
            met = any((name, value) in marks for value in values)
            self.assert_told(("is", name, values), marks, met)
            self.assert_told(("no", name, values), marks, not met)

    def test_there_and_lacks(self):
        for marks, name in product(ALL_MARKS, NAMES):
            met = any((name, value) in marks for value in VALUES)
            self.assert_told(("there", name, ()), marks, met)
            self.assert_told(("lacks", name, ()), marks, not met)


class MeetsAllTest(unittest.TestCase):
    MARKS = (("env", "live"), ("host", "db7"))
    # For each word an asking that is met, and one that is not.
    MET = (
        ("is", "env", ("old", "live")),
        ("no", "host", ("web1",)),
        ("there", "env", ()),
        ("lacks", "zone", ()),
    )
    UNMET = (
        ("is", "env", ("old", "trial")),
        ("no", "host", ("db7",)),
        ("there", "zone", ()),
        ("lacks", "host", ()),
    )

    def test_none_is_met_by_all_marks(self):
        self.assertIs(meets_all((), ()), True)
        self.assertIs(meets_all((), self.MARKS), True)

    def test_met_just_where_each_is_met(self):
        for n in range(5):
            for order in permutations(range(4), n):
                for truths in product((True, False), repeat=n):
                    askings = tuple(
                        self.MET[k] if truth else self.UNMET[k]
                        for k, truth in zip(order, truths)
                    )
                    with self.subTest(askings=askings):
                        self.assertIs(meets_all(askings, self.MARKS), all(truths))

    def test_by_no_marks(self):
        self.assertIs(meets_all((("lacks", "a", ()), ("no", "b", ("x",))), ()), True)
        self.assertIs(meets_all((("lacks", "a", ()), ("is", "b", ("x",))), ()), False)

    def test_several_of_one_name(self):
        within = (("there", "a", ()), ("no", "a", ("x", "y")))
        self.assertIs(meets_all(within, (("a", "xy"),)), True)
        self.assertIs(meets_all(within, (("a", "y"),)), False)
        self.assertIs(meets_all(within, (("b", "xy"),)), False)
        never = (("there", "a", ()), ("lacks", "a", ()))
        for marks in ALL_MARKS:
            with self.subTest(marks=marks):
                self.assertIs(meets_all(never, marks), False)


if __name__ == "__main__":
    unittest.main()
