"""Point 5: names, values, and the value of a name in marks."""

import unittest

from belfry.marks import is_name, is_value, value_in

LETTERS = "abcdefghijklmnopqrstuvwxyz"
FIGURES = "0123456789"
# The sign for per cent stands in no text (point 3).
SIGNS = [chr(code) for code in range(ord(" "), ord("~") + 1) if code != 37]


def with_sign_at_each_place(word, sign):
    """The word with one of its signs put away for this one, place by place."""
    return [word[:k] + sign + word[k + 1:] for k in range(len(word))]


class WordsTest(unittest.TestCase):
    def assert_told(self, ask, words, truth):
        for word in words:
            with self.subTest(ask=ask.__name__, word=word):
                self.assertIs(ask(word), truth)


class NamesTest(WordsTest):
    def test_one_to_eight_small_letters_are_a_name(self):
        self.assert_told(is_name, list(LETTERS), True)
        self.assert_told(is_name, [LETTERS[:n] for n in range(1, 9)], True)
        self.assert_told(is_name, ["zzzzzzzz", "stuvwxyz", "host", "aa"], True)

    def test_none_and_more_than_eight_are_no_name(self):
        self.assert_told(is_name, ["", "abcdefghi", "abcdefghij", "a" * 300], False)

    def test_each_sign_at_each_place(self):
        for sign in SIGNS:
            for word in ("q", "qr", "qrs", "qrstuvwx"):
                words = with_sign_at_each_place(word, sign)
                self.assert_told(is_name, words, sign in LETTERS)

    def test_blanks_around_or_amid_make_no_name(self):
        self.assert_told(is_name, [" ", " ab", "ab ", "a b", "  "], False)


class ValuesTest(WordsTest):
    def test_one_to_twelve_letters_and_figures_are_a_value(self):
        self.assert_told(is_value, list(LETTERS + FIGURES), True)
        self.assert_told(is_value, [LETTERS[:n] for n in range(1, 13)], True)
        self.assert_told(is_value, [(FIGURES * 2)[:n] for n in range(1, 13)], True)
        self.assert_told(is_value, ["db7", "7db", "0", "00", "a1b2c3d4e5f6"], True)

    def test_none_and_more_than_twelve_are_no_value(self):
        self.assert_told(is_value, ["", "a" * 13, "1" * 13, "a1b2c3d4e5f6g", "a" * 300], False)

    def test_each_sign_at_each_place(self):
        for sign in SIGNS:
            for word in ("q", "q1", "1q2", "q1r2s3t4u5v6"):
                words = with_sign_at_each_place(word, sign)
                self.assert_told(is_value, words, sign in LETTERS + FIGURES)

    def test_what_is_a_value_but_no_name(self):
        words = ["a1", "1", "abcdefghi", "abcdefghijkl"]
        self.assert_told(is_value, words, True)
        self.assert_told(is_name, words, False)


# Each name but the last is the beginning of another one, and the values are
# unlike, some of them texts that are names here, too.
PAIRS = (
    ("a", "ab"),
    ("ab", "a"),
    ("abc", "0"),
    ("abcdefgh", "abc"),
    ("b", "z9"),
    ("bc", "abcdefghijkl"),
    ("bcd", "b"),
    ("zz", "1"),
)


class ValueInTest(unittest.TestCase):
    def test_the_value_of_each_name_that_stands(self):
        for n in range(len(PAIRS) + 1):
            for marks in (PAIRS[:n], PAIRS[len(PAIRS) - n:]):
                for name, value in marks:
                    with self.subTest(marks=marks, name=name):
                        self.assertEqual(value_in(marks, name), value)

    def test_a_name_that_stands_not(self):
        for n in range(len(PAIRS) + 1):
            for marks in (PAIRS[:n], PAIRS[len(PAIRS) - n:]):
                there = [name for name, _ in marks]
                asked = [name for name, _ in PAIRS] + ["c", "zzz", "z", "abcd", "aa"]
                for name in asked:
                    if name not in there:
                        with self.subTest(marks=marks, name=name):
                            self.assertEqual(value_in(marks, name), "")

    def test_one_pair_left_out(self):
        for k, (name, _) in enumerate(PAIRS):
            with self.subTest(name=name):
                self.assertEqual(value_in(PAIRS[:k] + PAIRS[k + 1:], name), "")

    def test_no_marks(self):
        self.assertEqual(value_in((), "a"), "")

    def test_names_that_begin_or_go_on_behind_another(self):
        marks = (("host", "one"),)
        for name in ("h", "hos", "hosts", "ost", "os"):
            with self.subTest(name=name):
                self.assertEqual(value_in(marks, name), "")

    def test_a_value_is_not_taken_for_a_name(self):
        self.assertEqual(value_in((("a", "b"), ("c", "d")), "b"), "")
        self.assertEqual(value_in((("a", "b"), ("b", "a")), "b"), "a")

    def test_what_is_told_is_a_text(self):
        for name in ("abc", "zz", "none"):
            with self.subTest(name=name):
                self.assertIsInstance(value_in(PAIRS, name), str)


if __name__ == "__main__":
    unittest.main()
