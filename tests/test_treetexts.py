"""Point 33: trees as lists of texts, and which word of which text is none."""

import copy
import unittest

from belfry.errors import BadTree
from belfry.treetexts import read_tree, shown_tree
from made import row, trees

DEEP = row(
    (("there", "any", ()),),
    True,
    ("env",),
    5,
    60,
    ("day", "night", "day"),
    (
        row(
            (("is", "env", ("live", "old")), ("no", "host", ("db1",))),
            False,
            ("zone", "env", "host", "rack"),
            10**9,
            1,
            ("a", "b", "c", "d"),
            (row((("lacks", "zone", ()),), True, (), 1, 10**9, (), (row(rows=(row(),)),)), row((), True)),
        ),
        row((("there", "zone", ()),), False, ("rack",), 10, 999999999, ("night",)),
    ),
)
DEEP_TEXTS = [
    "0 on env 5 60 day,night,day any+",
    "1 off zone,env,host,rack 1000000000 1 a,b,c,d env=live|old host!db1",
    "2 on - 1 1000000000 - zone-",
    "3 off - 1 1 - -",
    "4 off - 1 1 - -",
    "2 on - 1 1 - -",
    "1 off rack 10 999999999 night zone+",
]


def text(depth, askings="-"):
    return f"{depth} on - 1 1 - {askings}"


def texts(depths):
    return [text(depth) for depth in depths]


class TreeTextTest(unittest.TestCase):
    def assert_refused(self, told, number, at):
        with self.subTest(texts=told):
            with self.assertRaises(BadTree) as caught:
                read_tree(told)
            self.assertEqual((caught.exception.row, caught.exception.at), (number, at))

    def assert_read(self, told):
        with self.subTest(texts=told):
            self.assertEqual(shown_tree(read_tree(told)), told)

    def assert_word(self, at, wrong=(), right=()):
        """The same word wrong, or right, in the first text, in a later one, and in the last."""
        for number in (0, 1, 2):
            for word in wrong:
                self.assert_refused(self.with_word(number, at, word), number, at)
            for word in right:
                self.assert_read(self.with_word(number, at, word))

    @staticmethod
    def with_word(number, at, word):
        told = [one.split(" ") for one in texts((0, 1, 2))]
        told[number][at] = word
        return [" ".join(words) for words in told]


class WrittenTest(TreeTextTest):
    def test_one_row(self):
        self.assertEqual(shown_tree(row()), ["0 off - 1 1 - -"])
        self.assertEqual(read_tree(["0 off - 1 1 - -"]), row())
        self.assertEqual(read_tree(["0 on - 1 1 - -"]), row((), True))

    def test_several_depths(self):
        self.assertEqual(shown_tree(DEEP), DEEP_TEXTS)
        self.assertEqual(read_tree(DEEP_TEXTS), DEEP)

    def test_made_trees(self):
        for tree in trees("texts", 200):
            with self.subTest(tree=tree):
                self.assertEqual(read_tree(shown_tree(tree)), tree)

    def test_kinds(self):
        self.assertIs(type(shown_tree(DEEP)), list)
        tree = read_tree(DEEP_TEXTS)
        for one in (tree, tree[6][0], tree[6][0][6][0]):
            self.assertEqual([type(part) for part in one], [tuple, bool, tuple, int, int, tuple, tuple])

    def test_what_is_handed_in_stays_as_it_was(self):
        told = list(DEEP_TEXTS)
        read_tree(told)
        self.assertEqual(told, DEEP_TEXTS)
        wrong = list(DEEP_TEXTS) + ["1 on - 0 1 - -"]
        self.assert_refused(wrong, 7, 3)
        self.assertEqual(wrong, DEEP_TEXTS + ["1 on - 0 1 - -"])
        tree = copy.deepcopy(DEEP)
        shown_tree(tree)
        self.assertEqual(tree, DEEP)

    def test_what_is_told_is_the_askers_own(self):
        shown_tree(DEEP).clear()
        self.assertEqual(shown_tree(DEEP), DEEP_TEXTS)
        told = list(DEEP_TEXTS)
        tree = read_tree(told)
        told.clear()
        self.assertEqual(tree, DEEP)

    def test_a_refusal_leaves_nothing_behind(self):
        self.assert_refused([text(0), text(1, "a=x|y|z b+ c+ d+"), text(1, "a=w")], 2, 6)
        self.assert_read([text(0), text(1, "e=x|y|z f+ g+ h+")])


class LackingTest(TreeTextTest):
    def test_the_list_without_texts(self):
        self.assert_refused([], 0, 0)

    def test_a_text_with_words_lacking(self):
        words = text(0).split(" ")
        later = text(1).split(" ")
        for n in range(1, 7):
            self.assert_refused([" ".join(words[:n])], 0, n)
            self.assert_refused([" ".join(words[:n]), text(1)], 0, n)
            self.assert_refused([text(0), " ".join(later[:n])], 1, n)
            self.assert_refused([text(0), text(1), " ".join(later[:n]), text(1)], 2, n)

    def test_a_word_that_is_none_ahead_of_those_that_lack(self):
        self.assert_refused(["1 on"], 0, 0)
        self.assert_refused(["0 onn -"], 0, 1)
        self.assert_refused(["0 on - 0"], 0, 3)
        self.assert_refused([text(0), "1 on - 1 1 a,"], 1, 5)

    def test_words_without_signs(self):
        self.assert_refused([""], 0, 0)
        self.assert_refused([" "], 0, 0)
        self.assert_refused([text(0), ""], 1, 0)
        self.assert_refused([" " + text(0)], 0, 0)
        self.assert_refused([text(0) + " "], 0, 6)
        self.assert_refused(["0 on - 1 1 - a+ "], 0, 7)
        self.assert_refused(["0  on - 1 1 - -"], 0, 1)
        self.assert_refused(["0 on"], 0, 2)
        self.assert_refused(["0 on "], 0, 2)
        self.assert_refused(["0 on - 1 1 - "], 0, 6)
        self.assert_word(2, wrong=("",))
        self.assert_word(4, wrong=("",))
        self.assert_word(5, wrong=("",))

    def test_the_first_text_and_in_it_the_first_word(self):
        self.assert_refused([text(0), "1 on a,a 0 1 - -", "7"], 1, 2)
        self.assert_refused([text(0), "1 on - 01 0 9 x"], 1, 3)
        self.assert_refused([text(0), "1 on - 1 1 - x a+ b", "x"], 1, 6)
        self.assert_refused([text(0), "1 on - 1 1", "2 on - 1 x"], 1, 5)
        self.assert_refused(["1 x", ""], 0, 0)


class DepthTest(TreeTextTest):
    def test_not_one_figure(self):
        for word in ("a", "-", "+1", "-1", "01", "00", "10", "1.", "on", "1,", "~", "11"):
            self.assert_refused([text(word)], 0, 0)
            self.assert_refused([text(0), text(word)], 1, 0)
            self.assert_refused([text(0), text(1), text(word), text(1)], 2, 0)

    def test_the_first_text(self):
        for depth in range(1, 10):
            self.assert_refused([text(depth)], 0, 0)
            self.assert_refused([text(depth), text(0)], 0, 0)

    def test_nought_elsewhere(self):
        self.assert_refused(texts((0, 0)), 1, 0)
        self.assert_refused(texts((0, 1, 0)), 2, 0)
        self.assert_refused(texts((0, 1, 2, 3, 4, 0, 1)), 5, 0)

    def test_above_four(self):
        self.assert_read(texts((0, 1, 2, 3, 4)))
        self.assert_read(texts((0, 1, 2, 3, 4, 4, 3, 4)))
        self.assert_refused(texts((0, 1, 2, 3, 4, 5)), 5, 0)
        for depth in range(5, 10):
            self.assert_refused(texts((0, 1, 2, 3, 4, depth)), 5, 0)
            self.assert_refused(texts((0, 1, depth)), 2, 0)

    def test_above_one_more_than_the_one_ahead(self):
        self.assert_refused(texts((0, 2)), 1, 0)
        self.assert_refused(texts((0, 1, 3)), 2, 0)
        self.assert_refused(texts((0, 1, 2, 4)), 3, 0)
        self.assert_refused(texts((0, 1, 2, 1, 3)), 4, 0)
        self.assert_read(texts((0, 1, 2, 1, 2, 3, 4, 1, 1, 2)))
        for depth in (1, 2, 3):
            self.assert_read(texts((0, 1, 2, 3, depth)))

    def test_the_twenty_first_row(self):
        twenty = (0, 1, 2, 2, 2, 2, 2, 1, 2, 2, 2, 2, 2, 1, 2, 2, 2, 2, 2, 1)
        self.assertEqual(len(twenty), 20)
        self.assert_read(texts(twenty))
        for depth in (1, 2):
            self.assert_refused(texts(twenty + (depth,)), 20, 0)
        self.assert_refused(texts(twenty) + ["1"], 20, 0)
        self.assert_refused(texts(twenty) + ["2 x"], 20, 0)
        self.assert_refused(texts(twenty[:-1]) + ["1 x"] + texts((1,)), 19, 1)

    def test_the_sixth_row_of_one_row(self):
        self.assert_read(texts((0, 1, 1, 1, 1, 1)))
        self.assert_refused(texts((0, 1, 1, 1, 1, 1, 1)), 6, 0)
        self.assert_read(texts((0, 1, 1, 1, 1, 1, 2, 2, 2, 2, 2)))
        self.assert_refused(texts((0, 1, 1, 1, 1, 1, 2, 2, 2, 2, 2, 2)), 11, 0)
        self.assert_refused(texts((0, 1, 2, 1, 2, 3, 1, 1, 1, 2, 1)), 10, 0)
        self.assert_refused(texts((0, 1, 2, 3, 4, 4, 4, 4, 4, 4)), 9, 0)
        self.assert_refused(texts((0, 1, 2, 3, 4, 3, 3, 3, 3, 4, 3)), 10, 0)

    def test_five_rows_of_each_of_several_rows(self):
        self.assert_read(texts((0, 1, 2, 2, 2, 2, 2, 1, 2, 2, 2, 2, 2, 1)))
        self.assert_read(texts((0, 1, 2, 3, 3, 3, 3, 3, 2, 3, 3, 3, 3, 3, 2)))
        self.assert_read(texts((0, 1, 2, 3, 4, 4, 1, 2, 3, 4, 4, 4, 4)))


class HeadTest(TreeTextTest):
    def test_on(self):
        self.assert_word(1, wrong=("", "-", "On", "ON", "of", "offf", "true", "1", "on,"), right=("on", "off"))

    def test_by(self):
        self.assert_word(
            2,
            wrong=(",", "a,", ",a", "a,,b", "a1", "A", "a-", "-,a", "a,-", "--", "abcdefghi", "a;b", "a,b,abcdefghi"),
            right=("-", "a", "b,a", "a,b,c,d", "abcdefgh,a,ab,abc"),
        )

    def test_by_names_may_not_be_alike(self):
        self.assert_word(2, wrong=("a,a", "a,b,a", "a,b,c,c", "a,b,b,c"))

    def test_by_has_at_most_four_names(self):
        self.assert_word(2, wrong=("a,b,c,d,e", "a,b,c,d,a", "a,b,c,d,e,f"))

    def test_wait_and_again(self):
        for at in (3, 4):
            self.assert_word(
                at,
                wrong=(
                    "0", "00", "01", "0000000001", "-", "-1", "+1", "1.", "1,000", "a", "1a", "x1", "1000000001",
                    "9999999999", "10000000000", "01000000000", "00000000001", "1e9", "1_0",
                ),
                right=("1", "2", "9", "10", "909", "999999999", "1000000000"),
            )

    def test_chain(self):
        self.assert_word(
            5,
            wrong=(",", "a,", ",a", "a,,b", "a1", "A", "a-", "-,a", "a,-", "--", "abcdefghi", "a;b"),
            right=("-", "a", "b,a", "a,b,c,d", "abcdefgh,a"),
        )

    def test_chain_names_may_be_alike(self):
        self.assert_word(5, right=("a,a", "a,b,a", "a,a,a,a"))

    def test_chain_has_at_most_four_names(self):
        self.assert_word(5, wrong=("a,b,c,d,e", "a,a,a,a,a"))


class AskingsTest(TreeTextTest):
    def assert_askings(self, words, at):
        """What is none of askings as point 7 tells, in the first text and in a later one."""
        self.assert_refused([text(0, words)], 0, at)
        self.assert_refused([text(0), text(1, words), text(1)], 1, at)
        self.assert_refused([text(0), text(1), text(2, words)], 2, at)

    def test_empty_and_full(self):
        for words in ("-", "a+", "a- b=x", "a=x|y|z b!x|y|z c- d+"):
            self.assert_read([text(0, words), text(1, words), text(2, words)])

    def test_what_seven_refuses(self):
        for words, at in (
            ("a", 6),
            ("- a+", 6),
            ("a+ -", 7),
            ("a+  b+", 7),
            ("a+ ", 7),
            ("a=x|x", 6),
            ("a+ b=", 7),
            ("a+ b=x|y|z|w", 7),
            ("a+ b- c+ a=X", 9),
            ("a+ b- c+ d+ a-", 10),
            ("a+ b- c+ d+ ", 10),
            ("a+ b- A+ d+ a-", 8),
        ):
            self.assert_askings(words, at)

    def test_the_fifth_name(self):
        self.assert_refused([text(0), text(1, "a+ b+ c+ d+"), text(1, "e+")], 2, 6)
        self.assert_refused([text(0), text(1, "a+ b+ c+"), text(2, "a- d- c=x e!x")], 2, 9)
        self.assert_refused([text(0), text(1, "a+ b=x"), text(2, "c!x"), text(1, "d-"), text(1, "a- e-")], 4, 7)
        self.assert_read([text(0), text(1, "a+ b+ c+ d+"), text(1, "d=x c!y b- a-"), text(2, "a=x b=x c=x d=y")])

    def test_the_fourth_value_of_a_name(self):
        self.assert_refused([text(0), text(1, "a=x|y|z"), text(1, "a=w")], 2, 6)
        self.assert_refused([text(0), text(1, "a=x|y|z"), text(2, "b=w a!x|w")], 2, 7)
        self.assert_refused([text(0), text(1, "a=x|y a!z|w")], 1, 7)
        self.assert_refused([text(0), text(1, "a=x"), text(1, "a=y"), text(1, "a!z"), text(1, "a+ a!x|y|z a!w")], 4, 8)
        self.assert_refused([text(0), text(1, "a=x|y"), text(2, "a=z|w")], 2, 6)
        self.assert_read([text(0), text(1, "a=x|y|z b=u|v|w"), text(1, "a!z|y|x a- a+ b=w|u"), text(1, "c=1|2|3")])
        self.assert_read([text(0), text(1, "a=x|y|z b=x|y|w c=w|v|u d=1|2|3")])

    def test_that_of_the_own_row_is_not_counted(self):
        self.assert_read([text(0, "e+ f+ g+ h+"), text(1, "a+ b+ c+ d+")])
        self.assert_read([text(0, "a=x|y|z a=u|v|w a!r|s|t a=o|p|q")])
        self.assert_read([text(0, "a=1|2|3"), text(1, "a=4|5|6")])
        self.assert_refused([text(0, "a=1|2|3"), text(1, "a=4|5|6"), text(1, "a=1")], 2, 6)
        self.assert_refused([text(0, "e+ f+ g+ h+"), text(1, "a+ b+ c+ d+"), text(1, "e+")], 2, 6)

    def test_too_much_ahead_of_a_word_that_is_none(self):
        self.assert_refused([text(0), text(1, "a+ b+ c+ d+"), text(1, "a- e+ x")], 2, 7)
        self.assert_refused([text(0), text(1, "a+ b+ c+ d+"), text(1, "a- x e+")], 2, 7)
        self.assert_refused([text(0), text(1, "a+ b+ c+ d+"), text(1, "a- e+ b-")], 2, 7)
        self.assert_refused([text(0), text(1, "a=x|y|z"), text(1, "a=w a=x")], 2, 6)
        self.assert_refused([text(0), text(1, "a=x|y|z"), text(1, "a=w ")], 2, 6)
        self.assert_refused([text(0), text(1, "a=x|y|z"), text(1, "b+ b+ b+ a=w b+")], 2, 9)
        self.assert_refused([text(0), text(1, "a=x|y|z"), text(1, "b+ b+ b+ b+ a=w")], 2, 10)


if __name__ == "__main__":
    unittest.main()
