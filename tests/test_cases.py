"""Points 12 to 14: marks that are taken at a place, or a case that bears that none are."""

import random
import unittest
from itertools import permutations

from belfry.askings import meets, meets_all
from belfry.cases import bears, names_asked, shown, values_with
from belfry.errors import NoPlace
from belfry.marks import is_name, is_value
from belfry.trees import places, row_at, taken
from made import all_marks, row, trees


def is_(name, *values):
    return ("is", name, values)


def no(name, *values):
    return ("no", name, values)


def there(name):
    return ("there", name, ())


def lacks(name):
    return ("lacks", name, ())


def split(name, *cases):
    return ("split", name, cases)


def fails(*place):
    return ("fails", place)


def caught(*place):
    return ("caught", place)


def bears_by_the_words(tree, place, case, told):
    """Point 14 once more, told holding the value of each name that was split ahead."""

    def met(asking):
        name = asking[1]
        value = {"": None, None: "~"}.get(told[name], told[name])
        return meets(asking, () if value is None else ((name, value),))

    if case[0] == "split":
        _, name, cases = case
        asked = [a for at in places(tree) if at for a in row_at(tree, at)[0] if a[1] == name]
        values = sorted({value for a in asked for value in a[2]}) + ["", None]
        return (
            name not in told
            and asked != []
            and [value for value, _ in cases] == values
            and all(bears_by_the_words(tree, place, one, {**told, name: value}) for value, one in cases)
        )
    word, at = case
    if word not in ("fails", "caught"):
        raise ValueError("not a case at all")
    if at == () or at not in places(tree):
        return False
    askings, on = row_at(tree, at)[:2]
    if word == "fails":
        above = [place[:n] for n in range(1, len(place) + 1)]
        return at in above and any(a[1] in told and not met(a) for a in askings)
    own = [place + (k,) for k in range(len(row_at(tree, place)[6]))]
    ahead = [place[:n] + (j,) for n in range(len(place)) for j in range(place[n])]
    takes = at in own or (at in ahead and not on)
    return takes and all(a[1] in told and met(a) for a in askings)


class AskedTest(unittest.TestCase):
    TREE = row(
        (is_("own", "x"), is_("env", "owner")),
        rows=(
            row((is_("env", "old", "live"), there("zone")), rows=(row((no("env", "new", "live"), is_("host", "b", "a"))),)),
            row((lacks("rack"), no("host", "a"))),
        ),
    )

    def test_names(self):
        self.assertEqual(names_asked(self.TREE), ["env", "host", "rack", "zone"])
        self.assertEqual(names_asked(row((is_("own", "x"),))), [])
        self.assertEqual(names_asked(row(rows=(row(), row(rows=(row(),))))), [])

    def test_values(self):
        self.assertEqual(values_with(self.TREE, "env"), ["live", "new", "old"])
        self.assertEqual(values_with(self.TREE, "host"), ["a", "b"])

    def test_no_values(self):
        for name in ("zone", "rack", "own", "other", "en", "", "live"):
            with self.subTest(name=name):
                self.assertEqual(values_with(self.TREE, name), [])

    def test_what_is_told_is_the_askers_own(self):
        names_asked(self.TREE).clear()
        values_with(self.TREE, "env").clear()
        self.assertEqual(names_asked(self.TREE), ["env", "host", "rack", "zone"])
        self.assertEqual(values_with(self.TREE, "env"), ["live", "new", "old"])

    def test_made_trees(self):
        for tree in trees("asked", 30):
            askings = [asking for place in places(tree) if place for asking in row_at(tree, place)[0]]
            with self.subTest(tree=tree):
                self.assertEqual(names_asked(tree), sorted({asking[1] for asking in askings}))
                for name in ("env", "host", "rack", "zone", "level"):
                    values = {value for asking in askings if asking[1] == name for value in asking[2]}
                    self.assertEqual(values_with(tree, name), sorted(values))


class ShownTest(unittest.TestCase):
    def assert_marks(self, tree, place):
        with self.subTest(tree=tree, place=place):
            word, marks = shown(tree, place)
            self.assertEqual(word, "marks")
            self.assertIn(place, taken(tree, marks))
            names = [name for name, _ in marks]
            self.assertEqual(names, sorted(set(names)))
            self.assertLessEqual(len(names), 8)
            self.assertTrue(all(is_name(name) and is_value(value) for name, value in marks))
            self.assertEqual({type(marks)} | {type(pair) for pair in marks} - {tuple}, {tuple})

    def assert_cases(self, tree, place):
        with self.subTest(tree=tree, place=place):
            word, case = shown(tree, place)
            self.assertEqual(word, "cases")
            self.assertIs(bears(tree, place, case), True)
            self.assertTrue(bears_by_the_words(tree, place, case, {}))

    def test_one_row(self):
        self.assertEqual(shown(row(), ()), ("marks", ()))
        self.assert_marks(row((there("a"), lacks("a"))), ())

    def test_the_own_row_where_a_row_takes_all(self):
        for on in (True, False):
            self.assert_cases(row(rows=(row((), on),)), ())
            self.assert_cases(row(rows=(row((there("a"),), on), row((lacks("a"),)))), ())
            self.assert_marks(row(rows=(row((there("a"),), on),)), ())

    def test_rows_beside(self):
        for on in (True, False):
            told = self.assert_marks if on else self.assert_cases
            told(row(rows=(row((), on), row())), (1,))
            told(row(rows=(row((is_("a", "x", "y"),), on), row((is_("a", "y"),)))), (1,))
            told(row(rows=(row((there("a"),), on), row(rows=(row((is_("a", "y"),)),)))), (1, 0))
            self.assert_marks(row(rows=(row((is_("a", "x"),), on), row((is_("a", "x", "y"),)))), (1,))
            self.assert_marks(row(rows=(row(), row((), on))), (0,))

    def test_askings_against_one_another(self):
        for askings in (
            (there("a"), lacks("a")),
            (is_("a", "x"), is_("a", "y", "z")),
            (is_("a", "x"), no("a", "x")),
            (lacks("a"), is_("a", "x")),
        ):
            self.assert_cases(row(rows=(row(askings),)), (0,))
            self.assert_cases(row(rows=(row(askings[:1], rows=(row(askings[1:]),)),)), (0, 0))
            self.assert_marks(row(rows=(row(askings[:1]),)), (0,))
            self.assert_marks(row(rows=(row(askings[1:]),)), (0,))

    def test_a_value_that_stands_in_no_asking(self):
        """The value chosen is none that is asked for, be these whatever they are."""
        for values in (("0", "1", "2"), ("other", "a", "z"), ("1", "2", "3"), ("x",), ("0",)):
            tree = row(rows=(row((there("a"), no("a", *values))), row((is_("a", *values),)), row((no("a", *values),))))
            for place in ((0,), (1,), (2,)):
                self.assert_marks(tree, place)
            self.assert_cases(tree, ())

    def test_no_place(self):
        tree = row(rows=(row(), row(rows=(row((there("a"), lacks("a"))),))))
        for place in ((2,), (0, 0), (1, 1), (1, 0, 0), (10**9,), (-1,)):
            with self.subTest(place=place):
                with self.assertRaises(NoPlace):
                    shown(tree, place)

    def test_four_names_with_three_values_each(self):
        askings = [is_(name, "x", "y", "z") for name in "abcd"]
        others = [row((no(name, "x", "y", "z"), there(name))) for name in "abcd"]
        tree = row(rows=(row(rows=others + [row(tuple(askings))]),))
        for k in range(5):
            self.assert_marks(tree, (0, k))
        self.assert_marks(tree, (0,))
        tree = row(rows=[row((lacks(name),)) for name in "abcd"] + [row(tuple(askings), rows=(row((no("d", "x"), no("d", "y", "z"))),))])
        self.assert_cases(tree, (4, 0))
        self.assert_marks(tree, (4,))

    def test_made_trees(self):
        found = {"marks": 0, "cases": 0}
        every = all_marks()
        for tree in trees("shown", 60):
            reached = {place for marks in every for place in taken(tree, marks)}
            for place in places(tree):
                if place in reached:
                    self.assert_marks(tree, place)
                else:
                    self.assert_cases(tree, place)
                found["marks" if place in reached else "cases"] += 1
        self.assertGreater(min(found.values()), 100)


class BearsTest(unittest.TestCase):
    def assert_bears(self, tree, place, case, truth):
        with self.subTest(place=place, case=case):
            self.assertIs(bears(tree, place, case), truth)

    # (1, 0) is never reached: what lives is caught by (0,), all else fails.
    TREE = row(
        (is_("own", "x"),),
        rows=(
            row((is_("env", "live"),)),
            row((is_("env", "live", "old"),), True, rows=(row((is_("env", "live"),)), row((there("zone"),), True))),
            row((is_("env", "live"),)),
        ),
    )
    RIGHT = (("live", caught(0)), ("old", fails(1, 0)), ("", fails(1)), (None, fails(1)))

    def with_case(self, value, case):
        return split("env", *[(one, case if one == value else other) for one, other in self.RIGHT])

    def test_a_split(self):
        self.assert_bears(self.TREE, (1, 0), split("env", *self.RIGHT), True)

    def test_a_split_of_other_values(self):
        right = self.RIGHT
        for cases in (
            (),
            right[:3],
            right[1:],
            right[:2] + right[3:],
            right[:1] + right[2:],
            right + right[3:],
            right[:1] + right,
            right[:2] + (("other", fails(1)),) + right[2:],
            right[:2] + right[3:] + (("other", fails(1)),),
            right[:2] + (("other", fails(1)),) + right[3:],
            (("alive", fails(1)),) + right,
            (("new", caught(0)),) + right[1:],
        ):
            self.assert_bears(self.TREE, (1, 0), split("env", *cases), False)

    def test_a_split_in_another_order(self):
        for cases in permutations(self.RIGHT):
            self.assert_bears(self.TREE, (1, 0), split("env", *cases), cases == self.RIGHT)

    def test_a_split_on_a_name_split_ahead(self):
        again = split("env", *self.RIGHT)
        for value, _ in self.RIGHT:
            self.assert_bears(self.TREE, (1, 0), self.with_case(value, again), False)
        zone = split("zone", ("", fails(1)), (None, fails(1)))
        self.assert_bears(self.TREE, (1, 0), self.with_case("", zone), True)
        zone = split("zone", ("", zone), (None, fails(1)))
        self.assert_bears(self.TREE, (1, 0), self.with_case("", zone), False)

    def test_a_split_on_a_name_in_no_asking(self):
        right = split("env", *self.RIGHT)
        for name in ("own", "rack", "", "live"):
            self.assert_bears(self.TREE, (1, 0), split(name, ("", right), (None, right)), False)
            self.assert_bears(self.TREE, (1, 0), split(name, ("x", right), ("", right), (None, right)), False)
        self.assert_bears(self.TREE, (1, 0), split("zone", ("", right), (None, right)), True)

    def test_a_split_of_which_one_case_does_not_bear_it(self):
        for value, _ in self.RIGHT:
            self.assert_bears(self.TREE, (1, 0), self.with_case(value, caught(2)), False)
        right = split("env", *self.RIGHT)
        wrong = self.with_case("old", fails(1))
        for cases in (((("", right), (None, wrong))), ((("", wrong), (None, right)))):
            self.assert_bears(self.TREE, (1, 0), split("zone", *cases), False)

    def test_for_other_places(self):
        for place in places(self.TREE):
            self.assert_bears(self.TREE, place, split("env", *self.RIGHT), place == (1, 0))

    def test_fails_at_the_place_or_above_it(self):
        self.assert_bears(self.TREE, (1, 0), self.with_case("", fails(1, 0)), True)
        self.assert_bears(self.TREE, (1, 0), self.with_case(None, fails(1, 0)), True)
        for wrong in ((), (0,), (2,), (1, 1), (1, 0, 0), (3,), (9, 9), (-2,), (1, -2)):
            for value, _ in self.RIGHT:
                self.assert_bears(self.TREE, (1, 0), self.with_case(value, ("fails", wrong)), False)

    def test_fails_not_where_the_askings_are_met(self):
        self.assert_bears(self.TREE, (1, 0), self.with_case("live", fails(1)), False)
        self.assert_bears(self.TREE, (1, 0), self.with_case("live", fails(1, 0)), False)
        self.assert_bears(self.TREE, (1, 0), self.with_case("old", fails(1)), False)

    def test_fails_not_without_a_split_of_the_name(self):
        self.assert_bears(self.TREE, (1, 0), fails(1, 0), False)
        self.assert_bears(self.TREE, (1, 0), split("zone", ("", fails(1)), (None, fails(1))), False)

    def test_fails_not_at_the_own_row(self):
        """Its askings are not looked at, whatever names are split."""
        tree = row((is_("a", "x"), lacks("a")), rows=(row((is_("a", "x"),)),))
        for place in ((), (0,)):
            self.assert_bears(tree, place, split("a", ("x", fails()), ("", fails()), (None, fails())), False)

    def test_fails_by_one_of_several_askings(self):
        tree = row(rows=(row((there("b"), is_("a", "x"), lacks("b"))),))
        self.assert_bears(tree, (0,), split("b", ("", fails(0)), (None, fails(0))), True)
        self.assert_bears(tree, (0,), split("a", ("x", fails(0)), ("", fails(0)), (None, fails(0))), False)

    def test_none_and_the_text_without_signs(self):
        """None stands for a value in no asking, the text without signs for a name that stands not."""
        for asking, met in (
            (there("a"), {"x": True, "": False, None: True}),
            (lacks("a"), {"x": False, "": True, None: False}),
            (is_("a", "x"), {"x": True, "": False, None: False}),
            (no("a", "x"), {"x": False, "": True, None: True}),
        ):
            tree = row(rows=(row((asking,)), row((is_("a", "x"),)), row((asking,), rows=(row(),))))
            for value in ("x", "", None):
                for wrong in (False, True):
                    # At (0,) fails what does not meet it; what meets it is caught by (0,) ahead of (2, 0).
                    case = {one: caught(0) if truth else fails(2) for one, truth in met.items()}
                    if wrong:
                        case[value] = fails(2) if met[value] else caught(0)
                    self.assert_bears(tree, (2, 0), split("a", *case.items()), not wrong)

    def test_caught_by_a_row_of_the_place_itself(self):
        for on in (True, False):
            tree = row(rows=(row(rows=(row((there("a"),), on), row((lacks("a"),), on, rows=(row(),)))), row()))
            right = split("a", ("", caught(0, 1)), (None, caught(0, 0)))
            self.assert_bears(tree, (0,), right, True)
            self.assert_bears(tree, (0,), split("a", ("", caught(0, 0)), (None, caught(0, 1))), False)
            self.assert_bears(tree, (0,), split("a", ("", caught(0, 1, 0)), (None, caught(0, 0))), False)
            self.assert_bears(tree, (0,), split("a", ("", caught(0, 1)), (None, caught(0, 2))), False)
            self.assert_bears(tree, (0,), split("a", ("", caught(0, 1)), (None, caught(0, -2))), False)
            self.assert_bears(tree, (1,), right, False)
            self.assert_bears(tree, (), right, False)

    def test_caught_by_a_row_of_the_own_row(self):
        for on in (True, False):
            tree = row(rows=(row((), on),))
            self.assert_bears(tree, (), caught(0), True)
            self.assert_bears(tree, (0,), caught(0), False)
            self.assert_bears(tree, (), caught(), False)
            self.assert_bears(tree, (0,), caught(), False)
            self.assert_bears(tree, (), caught(1), False)

    def test_caught_by_a_row_beside(self):
        for on in (True, False):
            tree = row(rows=(row(), row((), on), row(rows=(row((), on), row(), row((), on))), row((), on)))
            for at, place in (((1,), (2,)), ((1,), (2, 0)), ((1,), (2, 2)), ((2, 0), (2, 1)), ((2, 0), (2, 2)), ((1,), (3,))):
                self.assert_bears(tree, place, caught(*at), not on)
            for at, place in (
                ((3,), (2,)), ((3,), (2, 0)), ((3,), (2, 1)), ((1,), (1,)), ((1,), (0,)),
                ((2, 0), (2, 0)), ((2, 2), (2, 1)), ((2, 2), (2, 0)), ((2, 0), (3,)), ((2, 0), (1,)), ((2,), (2, 1)),
                ((2, 0, 0), (2, 1)), ((4,), (3,)), ((-1,), (2,)), ((2, -3), (2, 1)),
            ):
                self.assert_bears(tree, place, caught(*at), False)

    def test_caught_where_all_names_were_split_and_all_askings_are_met(self):
        tree = row(rows=(row((there("a"), is_("b", "x"))), row((there("a"), is_("b", "x")))))
        for wrong in (caught(0), split("b", ("x", caught(0)), ("", fails(1)), (None, fails(1)))):
            self.assert_bears(tree, (1,), wrong, False)
        b = split("b", ("x", caught(0)), ("", fails(1)), (None, fails(1)))
        self.assert_bears(tree, (1,), split("a", ("", fails(1)), (None, b)), True)
        self.assert_bears(tree, (1,), split("a", ("", caught(0)), (None, b)), False)
        self.assert_bears(tree, (1,), split("a", ("", fails(1)), (None, caught(0))), False)
        unmet = split("b", ("x", caught(0)), ("", caught(0)), (None, fails(1)))
        self.assert_bears(tree, (1,), split("a", ("", fails(1)), (None, unmet)), False)

    def test_what_is_reached_is_never_borne(self):
        tree = row(rows=(row((is_("a", "x"),), True), row((is_("a", "x"),))))
        leaves = [make(*place) for make in (fails, caught) for place in ((), (0,), (1,), (2,))]
        for place in ((0,), (1,), ()):
            for x in leaves:
                for lack in leaves:
                    for other in leaves:
                        self.assert_bears(tree, place, split("a", ("x", x), ("", lack), (None, other)), False)


class MadeCasesTest(unittest.TestCase):
    """Cases that are shown of made trees, and such as are spoiled by chance, against the words of 14."""

    def spoiled(self, chance, tree, case):
        every = places(tree) + [(9,), (0, 9), (-1,)]
        if case[0] != "split" or chance.random() < 0.15:
            return (chance.choice(("fails", "caught")), chance.choice(every))
        cases = list(case[2])
        k = chance.randrange(len(cases))
        what = chance.randrange(10)
        if what == 0:
            chance.shuffle(cases)
        elif what == 1:
            cases.pop(k)
        elif what == 2:
            return ("split", chance.choice(("env", "host", "rack", "zone", "level")), case[2])
        elif what == 3:
            cases[k] = (chance.choice(("", None, "live", "other")), cases[k][1])
        else:
            cases[k] = (cases[k][0], self.spoiled(chance, tree, cases[k][1]))
        return ("split", case[1], tuple(cases))

    def test_made_cases(self):
        chance = random.Random("spoiled")
        found = {True: 0, False: 0}
        for tree in trees("cases", 40):
            for place in places(tree):
                word, case = shown(tree, place)
                if word == "marks":
                    continue
                for _ in range(20):
                    spoiled = self.spoiled(chance, tree, case)
                    truth = bears_by_the_words(tree, place, spoiled, {})
                    found[truth] += 1
                    with self.subTest(tree=tree, place=place, case=spoiled):
                        self.assertIs(bears(tree, place, spoiled), truth)
                        other = chance.choice(places(tree))
                        self.assertIs(bears(tree, other, spoiled), bears_by_the_words(tree, other, spoiled, {}))
        self.assertGreater(min(found.values()), 100)


if __name__ == "__main__":
    unittest.main()
