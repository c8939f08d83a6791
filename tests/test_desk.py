"""Point 32: the desk, its lines and its answers."""

import copy
import random
import unittest

from belfry.desk import Desk
from belfry.errors import BadLine, HouseError, Late, NoPlace, NoStretch, Twice, Unknown
from belfry.house import House
from belfry.trees import places, row_at, taken
from belfry.treetexts import read_tree
from belfry.wordings import read_marks, shown_askings, shown_marks
from made import all_marks, deed, houses

TREE = read_tree(
    [
        "0 off - 2 5 day,night -",
        "1 on host,zone 1 3 night host+",
        "2 off zone 1 4 - zone=n",
        "1 off env 4 6 - env=live",
        "1 off - 1 1 - env=live host-",
    ]
)
ROTAS = [("day", (("ann", "bob"), 0, 10)), ("night", (("cyd", "dan"), 0, 7))]
RULES = [((("lacks", "host", ()),), (("there", "host", ()),), ("env",))]

TURN_WORDS = ("", "x", "-", "-1", "+1", "01", "00", "1.0", "1,0", "1x", "1000000000001", "9999999999999", "10000000000000", "12345678901234")
NUMBER_WORDS = TURN_WORDS[:10] + ("1000000001", "1000000000000")
NAME_WORDS = ("", "-", "Ann", "ann1", "a-b", "abcdefghi", "1", "a,b")
PLACE_WORDS = ("", ".", "0.", ".0", "0..0", "x", "0,1", "01", "0.01", "-1", "0.-", "-.-", "--", "1000000001", "0.12345678901234")
KEY_WORDS = ("--", "-,a", "a,-", "A", "a.b", "a=b", "abcdefghijklm", "a,abcdefghijklm", "a|b", "a;")
MARK_WORDS = ("", "-=x", "env", "env=", "=live", "env=live=x", "Env=live", "env=Live", "env!live", "env+", "env=a|b", "abcdefghi=x", "a=abcdefghijklm")
ASKING_WORDS = ("", "env", "env=", "=live", "env=a|", "env=a|a", "env=a|b|c|d", "env+x", "env-x", "env?live", "Env+", "abcdefghi+")


def new_desk():
    return Desk(TREE, ROTAS, RULES, "head")


class DeskTest(unittest.TestCase):
    def assert_says(self, desk, *told):
        for line, answer in told:
            with self.subTest(line=line):
                self.assertEqual(desk.say(line), answer)

    def assert_refused(self, kind, desk, line):
        ahead = (desk.say("open"), desk.say("log"))
        with self.subTest(line=line):
            with self.assertRaises(kind) as caught:
                desk.say(line)
            self.assertIs(type(caught.exception), kind)
        self.assertEqual((desk.say("open"), desk.say("log")), ahead)

    def assert_bad(self, line, at, desk=None):
        with self.subTest(line=line):
            with self.assertRaises(BadLine) as caught:
                (desk or new_desk()).say(line)
            self.assertEqual(caught.exception.at, at)


class AnswersTest(DeskTest):
    def test_each_line(self):
        desk = new_desk()
        self.assert_says(
            desk,
            ("open", "none"),
            ("log", "none"),
            ("come 0 3 env=old", "1"),
            ("come 0 2 zone=m host=db", "2"),
            ("come 1 9 -", "3"),
            ("ground 1", "none"),
            ("ground 2", "greater 0 3"),
            ("go 2 3", "ok"),
            ("ground 2", "none"),
            ("quiet 2 3 5 zone=m|n env!live", "1"),
            ("quiet 2 10 12 -", "2"),
            ("until 3", "ok"),
            ("ground 2", "told 1"),
            ("lift 4 1", "ok"),
            ("ground 2", "none"),
            ("swap 4 day ann bob 5 20", "ok"),
            ("away 4 dan 6 9", "ok"),
            ("until 8", "ok"),
            ("open", "- - 1; 0 db,m 2"),
            ("log", "2 - - 0 ann 1; 5 0 db,m 0 cyd 2; 7 - - 1 cyd 1"),
            ("answer 8 - -", "ok"),
            ("answer 8 0 db,m", "ok"),
            ("on day 8", "bob"),
            ("on day 4", "ann"),
            ("on night 7", "cyd"),
            ("row 2", "never"),
        )

    def test_numbers_parted_by_commas_and_groups_by_semicolons(self):
        desk = new_desk()
        for k in range(11):
            desk.say(f"come 0 0 env=live rack=r{k}")
        desk.say("come 0 0 zone=n host=web")
        desk.say("come 0 0 env=old")
        self.assert_says(
            desk,
            ("open", "- - 13; 0.0 n 12; 1 live 1,2,3,4,5,6,7,8,9,10,11"),
            ("until 5", "ok"),
            ("log", "1 0.0 n 0 head 12; 2 - - 0 ann 13; 4 1 live 0 head 1,2,3,4,5,6,7,8,9,10,11"),
        )

    def test_values_without_signs(self):
        tree = read_tree(["0 off env 1 2 - -", "1 off env,zone,rack 1 2 - host+"])
        desk = Desk(tree, [], [], "head")
        self.assert_says(
            desk,
            ("come 0 1 -", "1"),
            ("come 0 1 host=a", "2"),
            ("come 0 1 host=a zone=n", "3"),
            ("open", "-  1; 0 ,, 2; 0 ,n, 3"),
            ("until 2", "ok"),
            ("log", "1 -  0 head 1; 1 0 ,, 0 head 2; 1 0 ,n, 0 head 3"),
            ("answer 2 - ", "ok"),
            ("answer 2 0 ,,", "ok"),
            ("answer 2 0 ,n,", "ok"),
        )
        for line in ("answer 2 - -", "answer 2 0 ,", "answer 2 0 ,,,", "answer 2 0 n,,", "answer 2 0 -", "answer 2 0 "):
            self.assert_refused(Unknown, desk, line)

    def test_keys_of_any_number_of_values(self):
        desk = new_desk()
        for key in ("a,b,c,d,e,f,g,h,i,j", "," * 40, "", "0", "a"):
            self.assert_refused(Unknown, desk, "answer 0 - " + key)

    def test_places(self):
        desk = new_desk()
        desk.say("come 0 0 zone=n host=web")
        desk.say("until 2")
        self.assert_says(desk, ("answer 2 0.0 n", "ok"), ("log", "1 0.0 n 0 head 1"))
        for place in ("-", "0", "1", "0.1", "10", "0.0.0", "1000000000", "9.9.9.9.9.9.9"):
            self.assert_refused(Unknown, desk, f"answer 2 {place} n")

    def test_on(self):
        desk = new_desk()
        desk.say("away 0 ann 3 9")
        desk.say("away 0 bob 5 6")
        self.assert_says(desk, ("on day 3", "bob"), ("on day 5", "nobody"), ("on day 9", "ann"), ("on night 1000000000000", "dan"))
        self.assert_refused(Unknown, desk, "on ann 3")

    def test_row(self):
        desk = new_desk()
        for place in places(TREE):
            told = desk.say("row " + (".".join(str(k) for k in place) or "-"))
            with self.subTest(place=place):
                if place == (2,):
                    self.assertEqual(told, "never")
                else:
                    self.assertIn(place, taken(TREE, read_marks(told)))
        self.assertEqual(Desk(read_tree(["0 off - 1 1 - -"]), [], [], "head").say("row -"), "-")

    def test_row_of_no_place(self):
        for place in ("3", "0.1", "0.0.0", "1.0", "1000000000", "0.0.0.0.0.0.0"):
            self.assert_refused(NoPlace, new_desk(), "row " + place)

    def test_the_edges_of_numbers(self):
        desk = new_desk()
        self.assert_says(
            desk,
            ("come 0 0 -", "1"),
            ("come 0 9 env=old", "2"),
            ("quiet 0 999999999999 1000000000000 -", "1"),
            ("until 1000000000000", "ok"),
            ("come 1000000000000 5 env=live", "3"),
        )
        for line in ("go 1000000000000 0", "go 1000000000000 1000000000", "lift 1000000000000 0", "ground 0", "ground 1000000000"):
            self.assert_refused(Unknown, desk, line)

    def test_marks_in_any_order(self):
        desk = new_desk()
        desk.say("come 0 1 host=a env=live zone=n")
        self.assert_refused(Twice, desk, "come 0 1 zone=n env=live host=a")

    def test_eight_marks_and_four_askings(self):
        desk = new_desk()
        self.assert_says(
            desk,
            ("come 0 1 h=1 g=2 f=3 e=4 d=5 c=6 b=7 a=8", "1"),
            ("quiet 0 0 9 a+ b!8 c=6 zz-", "1"),
            ("ground 1", "told 1"),
        )


class RefusedTest(DeskTest):
    def test_as_the_house_does(self):
        desk = new_desk()
        desk.say("come 3 1 env=old")
        desk.say("quiet 5 6 8 -")
        for kind, line in (
            (Late, "come 4 1 env=old"),
            (Late, "until 4"),
            (Late, "answer 4 9 -"),
            (Twice, "come 9 1 env=old"),
            (Unknown, "go 5 2"),
            (Unknown, "lift 8 1"),
            (Unknown, "lift 5 2"),
            (NoStretch, "quiet 5 7 7 -"),
            (NoStretch, "quiet 5 4 4 -"),
            (Late, "quiet 5 4 7 -"),
            (Unknown, "swap 5 late ann bob 6 7"),
            (Unknown, "swap 5 day ann cyd 6 7"),
            (Twice, "swap 5 day ann ann 6 7"),
            (NoStretch, "swap 5 day ann bob 7 6"),
            (Late, "swap 5 day ann bob 4 7"),
            (Unknown, "away 5 zoe 6 7"),
            (NoStretch, "away 5 ann 6 6"),
            (Late, "away 5 ann 4 6"),
            (Unknown, "answer 5 - -"),
            (Unknown, "ground 2"),
            (Unknown, "on late 5"),
        ):
            self.assert_refused(kind, desk, line)

    def test_a_refused_line_changes_nothing(self):
        desk, other = new_desk(), new_desk()
        for one in (desk, other):
            one.say("come 0 1 env=old")
        for line in ("come 50 1 env=old", "go 50 9", "answer 50 1 -", "quiet 50 3 2 -", "until 50 1", "come 50 1 -  ", "row 9"):
            with self.assertRaises(HouseError):
                desk.say(line)
        for line in ("log", "open", "go 1 1", "come 1 1 -", "quiet 1 1 2 -", "until 90", "log"):
            self.assertEqual(desk.say(line), other.say(line))

    def test_a_bad_line_ahead_of_what_the_house_refuses(self):
        desk = new_desk()
        desk.say("come 5 1 env=old")
        for line, at in (
            ("come 5 1 env=old env=old", 4),
            ("come 4 1 Env=old", 3),
            ("come 4 10 env=old", 2),
            ("go 4 7 7", 3),
            ("go 4 01", 2),
            ("quiet 4 3 3 x", 4),
            ("lift 4", 2),
            ("swap 4 late zoe zoe 3", 6),
            ("swap 4 late zoe zoe 3 x", 6),
            ("away 4 zoe 3 3 3", 5),
            ("answer 4 9 A", 3),
            ("until 4 4", 2),
            ("ground 7 7", 2),
            ("on late 4x", 2),
            ("row 9 9", 2),
        ):
            self.assert_bad(line, at, desk)


class BadLineTest(DeskTest):
    LINES = (
        ("come", ("3", "5"), "env=live host=a"),
        ("quiet", ("3", "4", "5"), "env=live|old host+"),
        ("go", ("3", "1"), None),
        ("lift", ("3", "1"), None),
        ("swap", ("3", "day", "ann", "bob", "4", "5"), None),
        ("away", ("3", "ann", "4", "5"), None),
        ("answer", ("3", "0.0", "a,b"), None),
        ("until", ("3",), None),
        ("open", (), None),
        ("log", (), None),
        ("ground", ("1",), None),
        ("on", ("day", "3"), None),
        ("row", ("0.0",), None),
    )
    # Which words are none at which place of which line.
    NONE_AT = {
        "come": (TURN_WORDS, NUMBER_WORDS + ("10", "11", "99")),
        "quiet": (TURN_WORDS,) * 3,
        "go": (TURN_WORDS, NUMBER_WORDS),
        "lift": (TURN_WORDS, NUMBER_WORDS),
        "swap": (TURN_WORDS, NAME_WORDS, NAME_WORDS, NAME_WORDS, TURN_WORDS, TURN_WORDS),
        "away": (TURN_WORDS, NAME_WORDS, TURN_WORDS, TURN_WORDS),
        "answer": (TURN_WORDS, PLACE_WORDS, KEY_WORDS),
        "until": (TURN_WORDS,),
        "open": (),
        "log": (),
        "ground": (NUMBER_WORDS,),
        "on": (NAME_WORDS, TURN_WORDS),
        "row": (PLACE_WORDS,),
    }

    def test_no_such_first_word(self):
        for word in ("", "-", "Come", "comes", "com", "state", "states", "now", "log,", "0", "open_groups", "say"):
            for rest in ("", " ", " 0", " 0 0 -", " x y z"):
                self.assert_bad(word + rest, 0)
        self.assert_bad(" come 0 0 -", 0)

    def test_words_lacking(self):
        for word, parts, rest in self.LINES:
            for number in range(len(parts) + (rest is not None)):
                self.assert_bad(" ".join((word,) + parts[:number]), number + 1)

    def test_one_too_many(self):
        for word, parts, rest in self.LINES:
            if rest is None:
                for more in (" x", " 0", " ", "  ", " a b c", " -"):
                    self.assert_bad(" ".join((word,) + parts) + more, len(parts) + 1)

    def test_words_that_are_none(self):
        for word, parts, rest in self.LINES:
            for k, none in enumerate(self.NONE_AT[word]):
                for wrong in none:
                    told = parts[:k] + (wrong,) + parts[k + 1 :] + ((rest,) if rest else ())
                    self.assert_bad(" ".join((word,) + told), k + 1)

    def test_the_first_word_that_is_none(self):
        for word, parts, rest in self.LINES:
            for k in range(len(parts)):
                # "?" is none wherever it stands, so all from there on are.
                told = parts[:k] + ("?",) * (len(parts) - k)
                self.assert_bad(" ".join((word,) + told + ("?", "?")), k + 1)
                self.assert_bad(" ".join((word,) + parts[:k] + ("?",)), k + 1)

    def test_blanks_side_by_side(self):
        for word, parts, rest in self.LINES:
            for k in range(len(parts)):
                told = parts[:k] + ("",) + parts[k:] + ((rest,) if rest else ())
                if (word, k) != ("answer", 2):
                    self.assert_bad(" ".join((word,) + told), k + 1)
        # There a word without signs is a key, so it is the one behind it that is too many.
        self.assert_bad("answer 3 0.0  a,b", 4)

    def test_marks_that_are_none(self):
        for wrong in MARK_WORDS:
            self.assert_bad("come 3 5 " + wrong, 3)
            self.assert_bad(f"come 3 5 a=x b=y {wrong}", 5)
            self.assert_bad(f"come 3 5 a=x {wrong} b=y", 4)
        self.assert_bad("come 3 5 - a=x", 3)
        self.assert_bad("come 3 5 a=x -", 4)
        self.assert_bad("come 3 5 - -", 3)
        self.assert_bad("come 3 5 a=x b=x a=y", 5)
        self.assert_bad("come 3 5 a=x  b=x", 4)
        self.assert_bad("come 3 5  a=x", 3)
        self.assert_bad("come 3 5 a=x ", 4)
        self.assert_bad("come 3 5 a=1 b=1 c=1 d=1 e=1 f=1 g=1 h=1 i=1", 11)
        self.assert_bad("come 3 5 a=1 b=1 c=1 d=1 e=1 f=1 g=1 h=1 i=1 ?", 11)

    def test_askings_that_are_none(self):
        for wrong in ASKING_WORDS:
            self.assert_bad("quiet 3 4 5 " + wrong, 4)
            self.assert_bad(f"quiet 3 4 5 a+ b- {wrong}", 6)
            self.assert_bad(f"quiet 3 4 5 a+ {wrong} b-", 5)
        self.assert_bad("quiet 3 4 5 - a+", 4)
        self.assert_bad("quiet 3 4 5 a+ -", 5)
        self.assert_bad("quiet 3 4 5 a+ b+ c+ d+ e+", 8)
        self.assert_bad("quiet 3 4 5 a+  b+", 5)
        self.assert_bad("quiet 3 4 5 a+ ", 5)

    def test_right_lines_are_none_of_these(self):
        for word, parts, rest in self.LINES:
            line = " ".join((word,) + parts + ((rest,) if rest else ()))
            with self.subTest(line=line):
                try:
                    new_desk().say(line)
                except HouseError as refusal:
                    self.assertNotIsInstance(refusal, BadLine)


class MadeTest(DeskTest):
    """A desk and a house are told the same deeds."""

    def line_of(self, name, handed):
        if name == "come":
            turn, marks, weight = handed
            return f"come {turn} {weight} {shown_marks(marks)}"
        if name == "quiet":
            turn, askings, first, last = handed
            return f"quiet {turn} {first} {last} {shown_askings(askings)}"
        if name == "answer":
            turn, place, key = handed
            return f"answer {turn} {'.'.join(map(str, place)) or '-'} {','.join(key) if key else '-'}"
        return " ".join([name] + [str(part) for part in handed])

    def told(self, function, *handed):
        try:
            return function(*handed)
        except HouseError as refusal:
            return type(refusal)

    def test_made(self):
        chance = random.Random("desks")
        for parts in houses("desks", 25):
            desk, house = Desk(*parts), House(*parts)
            marks = chance.sample(all_marks(), 12)
            for _ in range(50):
                name, handed = deed(chance, parts, house, marks)
                if min([part for part in handed if isinstance(part, int)]) < 0:
                    continue
                line = self.line_of(name, handed)
                told = self.told(getattr(house, name), *handed)
                answer = told if isinstance(told, type) else "ok" if told is None else str(told)
                with self.subTest(parts=parts, line=line):
                    self.assertEqual(self.told(desk.say, line), answer)
            self.check_answers(parts, desk, house)

    def check_answers(self, parts, desk, house):
        tree, rotas, _, _ = parts
        place_word = {place: ".".join(map(str, place)) or "-" for place in places(tree)}
        groups = [f"{place_word[place]} {','.join(key) if key else '-'} {','.join(map(str, n))}" for place, key, n in house.open_groups()]
        self.assertEqual(desk.say("open"), "; ".join(groups) or "none")
        entries = [
            f"{turn} {place_word[place]} {','.join(key) if key else '-'} {step} {hand} {','.join(map(str, n))}"
            for turn, place, key, step, hand, n in house.log()
        ]
        self.assertEqual(desk.say("log"), "; ".join(entries) or "none")
        for number in range(1, len(house.records()[0]) + 2):
            told = self.told(house.ground_of, number)
            answer = told if isinstance(told, type) else " ".join(map(str, told or ("none",)))
            self.assertEqual(self.told(desk.say, f"ground {number}"), answer)
        for name, _ in rotas:
            for turn in (0, house.now(), house.now() + 7):
                self.assertEqual(desk.say(f"on {name} {turn}"), house.on_duty(name, turn) or "nobody")


class OwnTest(DeskTest):
    def test_nothing_handed_in_is_changed_and_what_is_kept_is_a_copy(self):
        rotas, rules = copy.deepcopy(ROTAS), copy.deepcopy(RULES)
        desk, other = Desk(TREE, rotas, rules, "head"), new_desk()
        lines = ("come 0 1 env=old", "come 0 1 host=a", "away 0 ann 2 3", "until 9", "log", "open", "on day 2", "ground 2")
        for line in lines[:3]:
            self.assertEqual(desk.say(line), other.say(line))
        self.assertEqual((rotas, rules), (ROTAS, RULES))
        rotas.clear()
        rules.clear()
        for line in lines[3:]:
            self.assertEqual(desk.say(line), other.say(line))

    def test_two_desks_keep_nothing_together(self):
        one, other = new_desk(), new_desk()
        one.say("come 0 1 env=old")
        one.say("until 9")
        self.assert_says(other, ("open", "none"), ("log", "none"), ("come 0 1 env=old", "1"))

    def test_all_rows_have_their_chain_of_rotas(self):
        """What the desks here are made of keeps to the document."""
        names = [name for name, _ in ROTAS]
        for place in places(TREE):
            self.assertLessEqual(set(row_at(TREE, place)[5]), set(names))


if __name__ == "__main__":
    unittest.main()
