"""Point 7: marks and askings as words, and which word is none."""

import re
import unittest
from itertools import permutations, product

from belfry.errors import BadWord
from belfry.wordings import read_askings, read_marks, shown_askings, shown_marks

EIGHT = tuple((name, "v" + name) for name in "abcdefgh")

# Words that are marks, words that are none, and some that are askings alone.
MARK_WORDS = ("a=x", "a=y", "b=x", "ab=x1", "-", "", "a", "a=", "=x", "a=x=y", "a-", "a+", "a!x", "a=x|y", "A=x", "a1=x")
ASKING_WORDS = ("a=x", "a=x|y", "a=x|x", "b!x|y|z", "b!x|y|z|w", "a+", "b-", "-", "", "+", "a", "a=", "a+x", "a--", "a!")


class WordingTest(unittest.TestCase):
    def assert_refused(self, read, text, at):
        with self.subTest(read=read.__name__, text=text):
            with self.assertRaises(BadWord) as caught:
                read(text)
            self.assertEqual(caught.exception.at, at)

    def assert_told(self, read, text, told):
        with self.subTest(read=read.__name__, text=text):
            self.assertEqual(read(text), told)


class ShownTest(unittest.TestCase):
    def test_marks(self):
        self.assertEqual(shown_marks(()), "-")
        self.assertEqual(shown_marks((("env", "live"),)), "env=live")
        self.assertEqual(shown_marks((("env", "live"), ("host", "db7"))), "env=live host=db7")
        self.assertEqual(shown_marks(EIGHT), "a=va b=vb c=vc d=vd e=ve f=vf g=vg h=vh")

    def test_askings_in_each_form(self):
        for asking, word in (
            (("is", "env", ("live",)), "env=live"),
            (("is", "env", ("live", "old")), "env=live|old"),
            (("is", "env", ("old", "live", "x1")), "env=old|live|x1"),
            (("no", "env", ("live",)), "env!live"),
            (("no", "env", ("z", "a")), "env!z|a"),
            (("no", "env", ("2", "1", "3")), "env!2|1|3"),
            (("there", "env", ()), "env+"),
            (("lacks", "env", ()), "env-"),
        ):
            with self.subTest(word=word):
                self.assertEqual(shown_askings((asking,)), word)
                self.assertEqual(read_askings(word), (asking,))

    def test_askings_in_their_order(self):
        self.assertEqual(shown_askings(()), "-")
        askings = (("there", "z", ()), ("is", "b", ("y", "x")), ("lacks", "a", ()), ("no", "b", ("x",)))
        words = ("z+", "b=y|x", "a-", "b!x")
        for order in permutations(range(4)):
            with self.subTest(order=order):
                told = tuple(askings[k] for k in order)
                self.assertEqual(shown_askings(told), " ".join(words[k] for k in order))


class ReadBackTest(unittest.TestCase):
    def test_marks(self):
        for n in range(9):
            with self.subTest(n=n):
                self.assertEqual(read_marks(shown_marks(EIGHT[:n])), EIGHT[:n])
        longest = (("abcdefgh", "z" * 12), ("z", "0"))
        self.assertEqual(read_marks(shown_marks(longest)), longest)

    def test_askings(self):
        each = [("there", "a", ()), ("lacks", "abcdefgh", ())]
        for word, n in product(("is", "no"), (1, 2, 3)):
            each.extend((word, "b", values) for values in permutations(("x", "0", "longestvalue"), n))
        for n in (0, 1, 2):
            for askings in product(each, repeat=n):
                with self.subTest(askings=askings):
                    self.assertEqual(read_askings(shown_askings(askings)), askings)
        for k in range(len(each)):
            four = (each[k], each[k - 1], each[k - 2], each[k])
            self.assertEqual(read_askings(shown_askings(four)), four)


class MarksReadTest(WordingTest):
    def test_none(self):
        self.assert_told(read_marks, "-", ())

    def test_in_any_order_and_told_sorted(self):
        marks = (("a", "z"), ("ab", "y"), ("b", "x"), ("c", "w"))
        for order in permutations(marks):
            self.assert_told(read_marks, " ".join(f"{name}={value}" for name, value in order), marks)
        self.assert_told(read_marks, shown_marks(tuple(reversed(EIGHT))), EIGHT)

    def test_kinds(self):
        told = read_marks("b=1 a=2")
        self.assertIs(type(told), tuple)
        self.assertEqual([type(pair) for pair in told], [tuple, tuple])
        self.assertIs(type(read_marks("-")), tuple)

    def test_a_bar_beside_others(self):
        self.assert_refused(read_marks, "- a=x", 0)
        self.assert_refused(read_marks, "a=x -", 1)
        self.assert_refused(read_marks, "a=x - b=x", 1)
        self.assert_refused(read_marks, "- -", 0)

    def test_words_without_signs(self):
        self.assert_refused(read_marks, "", 0)
        self.assert_refused(read_marks, " ", 0)
        self.assert_refused(read_marks, " a=x", 0)
        self.assert_refused(read_marks, "a=x ", 1)
        self.assert_refused(read_marks, "a=x  b=x", 1)
        self.assert_refused(read_marks, "a=x b=x  c=x", 2)
        self.assert_refused(read_marks, " -", 0)
        self.assert_refused(read_marks, "- ", 0)

    def test_names_and_values_that_are_none(self):
        for word in (
            "a", "=", "a=", "=x", "a=x=y", "a==x", "A=x", "a1=x", "abcdefghi=x", "a=X", "a=x.y", "a=x-",
            "a=" + "v" * 13, "a=x|y", "a!x", "a+", "a-", "a,b=x", "a=x,", "a:x", "--", "~=x", "a=~",
        ):
            self.assert_refused(read_marks, word, 0)
            self.assert_refused(read_marks, "z=1 " + word, 1)
            self.assert_refused(read_marks, "z=1 y=1 " + word + " x=1", 2)

    def test_the_longest_name_and_value(self):
        self.assert_told(read_marks, "abcdefgh=abcdefgh0123", (("abcdefgh", "abcdefgh0123"),))

    def test_a_name_that_stood_ahead(self):
        self.assert_refused(read_marks, "a=x a=x", 1)
        self.assert_refused(read_marks, "a=x a=y", 1)
        self.assert_refused(read_marks, "a=x b=x c=x b=y d=x", 3)
        self.assert_told(read_marks, "a=x ab=x", (("a", "x"), ("ab", "x")))

    def test_the_ninth_word(self):
        eight = shown_marks(EIGHT)
        self.assert_told(read_marks, eight, EIGHT)
        self.assert_refused(read_marks, eight + " i=x", 8)
        self.assert_refused(read_marks, eight + " i=x j=x", 8)
        self.assert_refused(read_marks, eight + " ", 8)
        self.assert_refused(read_marks, eight + " a=x", 8)
        self.assert_refused(read_marks, eight.replace("c=vc", "b=x") + " i=x", 2)
        self.assert_refused(read_marks, eight.replace("h=vh", "h=") + " i=x", 7)

    def test_the_first_of_several(self):
        self.assert_refused(read_marks, "a=x b a=y", 1)
        self.assert_refused(read_marks, "a=x a=y b", 1)
        self.assert_refused(read_marks, "a=x - b  c", 1)
        self.assert_refused(read_marks, "a=x  - b", 1)

    def test_all_texts_of_up_to_three_words(self):
        for n in (1, 2, 3):
            for words in product(MARK_WORDS, repeat=n):
                self.check(words)

    def check(self, words):
        told = []
        for at, word in enumerate(words):
            found = re.fullmatch("([a-z]{1,8})=([a-z0-9]{1,12})", word)
            if words != ("-",) and (not found or found[1] in dict(told)):
                self.assert_refused(read_marks, " ".join(words), at)
                return
            if found:
                told.append(found.groups())
        self.assert_told(read_marks, " ".join(words), tuple(sorted(told)))


class AskingsReadTest(WordingTest):
    def test_none(self):
        self.assert_told(read_askings, "-", ())

    def test_kinds(self):
        told = read_askings("b=1|2 a+")
        self.assertIs(type(told), tuple)
        for asking in told:
            self.assertIs(type(asking), tuple)
            self.assertIs(type(asking[2]), tuple)
        self.assertIs(type(read_askings("-")), tuple)

    def test_in_their_order_also_several_of_one_name(self):
        self.assert_told(
            read_askings,
            "z=b|a a- z=b|a a+",
            (("is", "z", ("b", "a")), ("lacks", "a", ()), ("is", "z", ("b", "a")), ("there", "a", ())),
        )

    def test_a_bar_beside_others(self):
        self.assert_refused(read_askings, "- a+", 0)
        self.assert_refused(read_askings, "a+ -", 1)
        self.assert_refused(read_askings, "a- - b+", 1)
        self.assert_refused(read_askings, "- -", 0)

    def test_words_without_signs(self):
        self.assert_refused(read_askings, "", 0)
        self.assert_refused(read_askings, " ", 0)
        self.assert_refused(read_askings, " a+", 0)
        self.assert_refused(read_askings, "a+ ", 1)
        self.assert_refused(read_askings, "a=x  b-", 1)
        self.assert_refused(read_askings, "a+ b-  c+", 2)
        self.assert_refused(read_askings, " -", 0)
        self.assert_refused(read_askings, "- ", 0)

    def test_names_and_values_that_are_none(self):
        for word in (
            "a", "=", "!", "+", "--", "=x", "!x", "a=", "a!", "a=|", "a=x|", "a=|x", "a=x||y", "a!x|", "a!|x",
            "a=x=y", "a!x!y", "a=!x", "a!=x", "a=x+", "a=x-", "a+x", "a-x", "a++", "a--", "a+-", "a-+", "a+=x",
            "A+", "a1-", "abcdefghi+", "abcdefghi-", "abcdefghi=x", "abcdefghi!x", "a=X", "a!x.y", "a=x,y",
            "a=" + "v" * 13, "a!x|" + "v" * 13, "+a", "-a", "|", "a|b", "a*",
        ):
            self.assert_refused(read_askings, word, 0)
            self.assert_refused(read_askings, "z+ " + word, 1)
            self.assert_refused(read_askings, "z+ y=1 " + word + " x-", 2)

    def test_the_longest_names_and_values(self):
        values = ("abcdefgh0123", "v" * 12, "0" * 12)
        self.assert_told(read_askings, "abcdefgh=" + "|".join(values), (("is", "abcdefgh", values),))
        self.assert_told(read_askings, "abcdefgh-", (("lacks", "abcdefgh", ()),))

    def test_the_fifth_word(self):
        four = "a+ b- c=x d!x|y"
        self.assertEqual(len(read_askings(four)), 4)
        self.assert_refused(read_askings, four + " e+", 4)
        self.assert_refused(read_askings, four + " e+ f+", 4)
        self.assert_refused(read_askings, four + " ", 4)
        self.assert_refused(read_askings, four + " e", 4)
        self.assert_refused(read_askings, "a+ b- c= d!x|y e+", 2)
        self.assert_refused(read_askings, "a+ b- c=x d!x|x e+", 3)

    def test_a_value_told_twice_in_its_word(self):
        for sign in "=!":
            self.assert_refused(read_askings, f"a{sign}x|x", 0)
            self.assert_refused(read_askings, f"a{sign}x|y|x", 0)
            self.assert_refused(read_askings, f"b+ a{sign}y|x|x", 1)
        self.assert_told(read_askings, "a=x a!x", (("is", "a", ("x",)), ("no", "a", ("x",))))

    def test_more_than_three_values(self):
        for sign, word in (("=", "is"), ("!", "no")):
            self.assert_told(read_askings, f"a{sign}x|y|z", ((word, "a", ("x", "y", "z")),))
            self.assert_refused(read_askings, f"a{sign}x|y|z|w", 0)
            self.assert_refused(read_askings, f"b- a{sign}x|y|z|w|v c", 1)

    def test_the_first_of_several(self):
        self.assert_refused(read_askings, "a+ b=x|x c d=1|2|3|4", 1)
        self.assert_refused(read_askings, "a+ b=1|2|3|4 c=x|x", 1)
        self.assert_refused(read_askings, "a+  - b", 1)

    def test_all_texts_of_up_to_three_words(self):
        for n in (1, 2, 3):
            for words in product(ASKING_WORDS, repeat=n):
                self.check(words)

    def check(self, words):
        told = []
        for at, word in enumerate(words):
            asking = self.asking_of(word)
            if words != ("-",) and asking is None:
                self.assert_refused(read_askings, " ".join(words), at)
                return
            if asking:
                told.append(asking)
        self.assert_told(read_askings, " ".join(words), tuple(told))

    @staticmethod
    def asking_of(word):
        value = "[a-z0-9]{1,12}"
        found = re.fullmatch(f"([a-z]{{1,8}})([=!])({value}(?:[|]{value}){{0,2}})|([a-z]{{1,8}})([+-])", word)
        if not found:
            return None
        if found[4]:
            return ({"+": "there", "-": "lacks"}[found[5]], found[4], ())
        values = tuple(found[3].split("|"))
        if len(set(values)) < len(values):
            return None
        return ({"=": "is", "!": "no"}[found[2]], found[1], values)


if __name__ == "__main__":
    unittest.main()
