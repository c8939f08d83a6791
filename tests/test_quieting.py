"""Points 19 and 20, and of 4 what concerns them: sayings, quietings, and the grounds."""

import random
import unittest
from itertools import permutations

from belfry.askings import meets_all
from belfry.quieting import ground, in_force, stands
from made import all_marks, askings

LIVE = (("is", "env", ("live",)),)
DB = (("is", "host", ("db1", "db2")),)
MARKS = (("env", "live"), ("host", "db1"))


def saying(number, marks=MARKS, weight=0, came=0, gone=None):
    return (number, marks, weight, came, gone)


class StandsTest(unittest.TestCase):
    def test_edges(self):
        for came, gone, turns in (
            (5, None, range(5, 12)),
            (5, 8, range(5, 8)),
            (5, 6, (5,)),
            (5, 5, ()),
            (0, 3, (0, 1, 2)),
            (0, None, range(12)),
            (8, 5, ()),
        ):
            for turn in range(12):
                with self.subTest(came=came, gone=gone, turn=turn):
                    self.assertIs(stands(saying(1, came=came, gone=gone), turn), turn in turns)

    def test_great_turns(self):
        self.assertIs(stands(saying(1, came=10**12), 10**12), True)
        self.assertIs(stands(saying(1, came=10**12), 10**12 - 1), False)
        self.assertIs(stands(saying(1, gone=10**12), 10**12), False)
        self.assertIs(stands(saying(1, gone=10**12), 10**12 - 1), True)


class InForceTest(unittest.TestCase):
    def test_edges(self):
        for first, last, turns in ((5, 8, (5, 6, 7)), (5, 6, (5,)), (0, 1, (0,)), (5, 5, ()), (8, 5, ()), (9, 2, ())):
            for turn in range(12):
                with self.subTest(first=first, last=last, turn=turn):
                    self.assertIs(in_force((1, (), first, last), turn), turn in turns)


class ToldTest(unittest.TestCase):
    def assert_ground(self, quietings, turn, told, one=saying(1)):
        for order in permutations(quietings):
            with self.subTest(quietings=order, turn=turn):
                self.assertEqual(ground(one, [one], list(order), [], turn), told)

    def test_none(self):
        self.assert_ground([], 5, None)

    def test_in_force_and_met(self):
        for turn in range(3, 10):
            self.assert_ground([(4, LIVE, 5, 8)], turn, ("told", 4) if 5 <= turn < 8 else None)
        self.assert_ground([(4, LIVE + DB, 5, 8)], 5, ("told", 4))
        self.assert_ground([(4, (), 5, 8)], 5, ("told", 4))
        self.assert_ground([(4, LIVE + (("there", "zone", ()),), 5, 8)], 5, None)
        self.assert_ground([(4, (("lacks", "env", ()),), 5, 8)], 5, None)

    def test_never_where_first_is_not_below_last(self):
        for turn in range(4, 10):
            self.assert_ground([(4, (), 8, 5)], turn, None)
            self.assert_ground([(4, (), 7, 7)], turn, None)

    def test_the_least_number_in_any_order(self):
        self.assert_ground([(7, LIVE, 0, 9), (3, DB, 0, 9), (5, (), 0, 9)], 5, ("told", 3))
        self.assert_ground([(7, LIVE, 0, 9), (3, DB, 0, 5), (5, (), 0, 9)], 5, ("told", 5))
        self.assert_ground([(7, LIVE, 0, 9), (3, DB, 6, 9), (12, (), 0, 9)], 5, ("told", 7))
        self.assert_ground([(7, LIVE, 0, 9), (3, (("there", "zone", ()),), 0, 9), (1, (), 9, 0)], 5, ("told", 7))
        self.assert_ground([(10, LIVE, 0, 9), (9, DB, 0, 9)], 5, ("told", 9))

    def test_ahead_of_a_greater_one(self):
        lesser, greater = saying(1), saying(2, weight=5)
        rules = [((), (), ())]
        self.assertEqual(ground(lesser, [lesser, greater], [(4, LIVE, 5, 8)], rules, 5), ("told", 4))
        self.assertEqual(ground(lesser, [lesser, greater], [(4, LIVE, 5, 8)], rules, 8), ("greater", 0, 2))
        self.assertEqual(ground(greater, [lesser, greater], [(4, LIVE, 5, 8)], rules, 7), ("told", 4))


class GreaterTest(unittest.TestCase):
    def assert_ground(self, one, others, rules, told, turn=5):
        for order in permutations([one] + others):
            with self.subTest(sayings=order, rules=rules, turn=turn):
                self.assertEqual(ground(one, list(order), [], rules, turn), told)

    def test_a_greater_weight(self):
        rule = (LIVE, DB, ())
        for weight in range(10):
            other = saying(2, weight=weight)
            self.assert_ground(saying(1, weight=4), [other], [rule], ("greater", 0, 2) if weight > 4 else None)
        self.assert_ground(saying(1, weight=9), [saying(2, weight=9)], [rule], None)
        self.assert_ground(saying(1, weight=9), [], [rule], None)

    def test_no_rule(self):
        self.assert_ground(saying(1), [saying(2, weight=9)], [], None)

    def test_the_greater_meets_the_first_and_the_lesser_the_second(self):
        first, second = (("is", "host", ("net",)),), (("is", "host", ("db1",)),)
        net = (("env", "live"), ("host", "net"))
        self.assert_ground(saying(1), [saying(2, net, 5)], [(first, second, ())], ("greater", 0, 2))
        self.assert_ground(saying(1), [saying(2, net, 5)], [(second, first, ())], None)
        self.assert_ground(saying(1), [saying(2, MARKS, 5)], [(first, second, ())], None)
        self.assert_ground(saying(1, net), [saying(2, net, 5)], [(first, second, ())], None)
        self.assert_ground(saying(1, net), [saying(2, MARKS, 5)], [(first, second, ())], None)

    def test_the_greater_stands_there(self):
        for turn in range(3, 10):
            other = saying(2, weight=5, came=5, gone=8)
            self.assert_ground(saying(1), [other], [((), (), ())], ("greater", 0, 2) if 5 <= turn < 8 else None, turn)

    def test_same_values_of_all_names(self):
        one = saying(1, (("env", "live"), ("host", "db1"), ("zone", "n")))
        for marks, names in (
            ((("env", "live"), ("host", "db1"), ("zone", "n")), {"env", "host", "zone", "rack"}),
            ((("env", "live"), ("host", "db2"), ("zone", "n")), {"env", "zone", "rack"}),
            ((("env", "live"), ("rack", "n")), {"env"}),
            ((("host", "live"),), {"rack"}),
            ((), {"rack"}),
        ):
            for told in ((), ("env",), ("zone", "env"), ("rack",), ("env", "rack"), ("host",), ("env", "host", "rack", "zone")):
                answer = ("greater", 0, 2) if set(told) <= names else None
                self.assert_ground(one, [saying(2, marks, 1)], [((), (), told)], answer)

    def test_a_name_that_stands_in_one_alone(self):
        self.assert_ground(saying(1, ()), [saying(2, (("env", "live"),), 1)], [((), (), ("env",))], None)
        self.assert_ground(saying(1, ()), [saying(2, (), 1)], [((), (), ("env",))], ("greater", 0, 2))

    def test_the_least_rule_then_the_least_number(self):
        others = [saying(9, weight=2), saying(4, weight=3), saying(6, (("env", "old"),), 9), saying(10, weight=1)]
        old = (("is", "env", ("old",)),)
        never = (("there", "zone", ()),)
        self.assert_ground(saying(5), others, [(LIVE, (), ())], ("greater", 0, 4))
        self.assert_ground(saying(5), others, [(never, (), ()), (LIVE, (), ()), (old, (), ())], ("greater", 1, 4))
        self.assert_ground(saying(5), others, [(old, (), ()), (LIVE, (), ())], ("greater", 0, 6))
        self.assert_ground(saying(5), others, [(LIVE, never, ()), (old, (), ("env",)), (LIVE, (), ("env",))], ("greater", 2, 4))
        self.assert_ground(saying(5, weight=3), others, [(LIVE, (), ()), (never, (), ()), ((), (), ())], ("greater", 2, 6))
        self.assert_ground(saying(5, weight=1), others, [((), (), ())], ("greater", 0, 4))
        self.assert_ground(saying(5), [saying(9, weight=2), saying(10, weight=8)], [((), (), ())], ("greater", 0, 9))

    def test_whether_the_greater_one_is_quieted_does_not_matter(self):
        one, middle, most = saying(1, weight=1), saying(2, weight=2), saying(3, weight=3)
        every = [one, middle, most]
        rules = [((), (), ())]
        self.assertEqual(ground(one, every, [], rules, 5), ("greater", 0, 2))
        self.assertEqual(ground(middle, every, [], rules, 5), ("greater", 0, 3))
        self.assertIsNone(ground(most, every, [], rules, 5))
        quieted = [(8, (("there", "zone", ()),), 0, 9)]
        greater = saying(2, (("zone", "n"),), 5)
        self.assertEqual(ground(greater, [one, greater], quieted, rules, 5), ("told", 8))
        self.assertEqual(ground(one, [one, greater], quieted, rules, 5), ("greater", 0, 2))


class MadeTest(unittest.TestCase):
    """Sayings, quietings and rules by chance, against the words of 20 and of 4."""

    def made(self, chance):
        marks = all_marks()
        numbers = chance.sample(range(1, 100), 12)
        sayings = []
        for number in numbers:
            came = chance.randint(0, 10)
            gone = chance.choice((None, None, came, came + 1, came + 5))
            sayings.append((number, chance.choice(marks), chance.randint(0, 9), came, gone))
        quietings = [
            (number, askings(chance), chance.randint(0, 12), chance.randint(0, 12))
            for number in chance.sample(range(1, 100), chance.randint(0, 5))
        ]
        rules = [
            (askings(chance)[:1], askings(chance)[:1], tuple(chance.sample(("env", "host", "rack", "zone"), chance.randint(0, 2))))
            for _ in range(chance.randint(0, 4))
        ]
        return sayings, quietings, rules

    def ground_by_the_words(self, one, sayings, quietings, rules, turn):
        told = [(n,) for n, asked, first, last in quietings if turn in range(first, last) and meets_all(asked, one[1])]
        if told:
            return ("told",) + min(told)
        greater = [
            (k, number)
            for k, (first, second, names) in enumerate(rules)
            for number, marks, weight, came, gone in sayings
            if came <= turn and (gone is None or turn < gone) and weight > one[2]
            and meets_all(first, marks) and meets_all(second, one[1])
            and all(dict(marks).get(name) == dict(one[1]).get(name) for name in names)
        ]
        return ("greater",) + min(greater) if greater else None

    def test_made(self):
        chance = random.Random("grounds")
        found = {"told": 0, "greater": 0, None: 0}
        for _ in range(100):
            sayings, quietings, rules = self.made(chance)
            for turn in range(0, 14, 2):
                there = [one for one in sayings if stands(one, turn)]
                grounds = {one[0]: ground(one, sayings, quietings, rules, turn) for one in there}
                for one in there:
                    told = grounds[one[0]]
                    found[told and told[0]] += 1
                    with self.subTest(saying=one, sayings=sayings, quietings=quietings, rules=rules, turn=turn):
                        self.assertEqual(told, self.ground_by_the_words(one, sayings, quietings, rules, turn))
                        self.check_promise(one, told, there, quietings, grounds, turn)
        self.assertGreater(min(found.values()), 200)

    def check_promise(self, one, told, there, quietings, grounds, turn):
        if told is None:
            return
        if told[0] == "told":
            self.assertIn(told[1], [quieting[0] for quieting in quietings if in_force(quieting, turn)])
            return
        self.assertIn(told[2], [other[0] for other in there if other[2] > one[2]])
        back = grounds[told[2]]
        self.assertFalse(back is not None and back[0] == "greater" and back[2] == one[0])


if __name__ == "__main__":
    unittest.main()
