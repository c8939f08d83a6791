"""Point 31: the log reckoned anew from the records."""

import copy
import random
import unittest

from belfry.anew import anew
from belfry.house import House
from made import closings_by_the_words, houses, lived_house, row, spoil

LIVE = (("is", "env", ("live",)),)
OLD = (("env", "old"),)
TREE = row(
    by=("env",),
    wait=2,
    again=5,
    chain=("day", "night"),
    rows=(row((("there", "host", ()),), True, ("host",), 1, 3, ("night",)), row(LIVE, False, (), 4, 6)),
)
ROTAS = [("day", (("ann", "bob"), 0, 10)), ("night", (("cyd", "dan", "ann"), 0, 7))]
PARTS = (TREE, ROTAS, [], "head")
NONE = ([], [], [], [], [])


class AnewTest(unittest.TestCase):
    def test_no_records(self):
        for turn in (0, 1, 50, 10**12):
            self.assertEqual(anew(*PARTS, NONE, turn), [])

    def test_from_turn_0_up_to_the_one_ahead(self):
        records = ([(1, OLD, 3, 0, None)], [], [], [], [])
        log = [(2, (), ("old",), 0, "ann", [1]), (7, (), ("old",), 1, "dan", [1]), (12, (), ("old",), 2, "head", [1])]
        for turn, number in ((0, 0), (1, 0), (2, 0), (3, 1), (7, 1), (8, 2), (12, 2), (13, 3), (10**12, 3)):
            with self.subTest(turn=turn):
                self.assertEqual(anew(*PARTS, records, turn), log[:number])

    def test_answers_of_each_turn(self):
        sayings = [(1, OLD, 3, 0, None)]
        for answers, turns in (
            ([(7, (), ("old",))], [2]),
            ([(8, (), ("old",))], [2, 7]),
            ([(2, (), ("old",))], [2, 7, 12]),
            ([(7, (), ("live",)), (7, (0,), ("old",))], [2, 7, 12]),
            ([(30, (), ("old",)), (7, (), ("old",))], [2]),
        ):
            log = anew(*PARTS, (sayings, [], [], [], answers), 60)
            with self.subTest(answers=answers):
                self.assertEqual([entry[0] for entry in log], turns)

    def test_all_swaps_in_their_order_and_all_absences(self):
        sayings = [(1, OLD, 3, 0, None)]
        swaps = [("day", "ann", "bob", 0, 3), ("night", "cyd", "dan", 7, 8), ("night", "cyd", "ann", 7, 8)]
        for told, gone, hands in (
            (swaps, [], ["bob", "ann", "head"]),
            (swaps[::-1], [], ["bob", "cyd", "head"]),
            ([], [("dan", 7, 8)], ["ann", "ann", "head"]),
            (swaps, [("ann", 0, 9), ("bob", 2, 3)], ["head", "cyd", "head"]),
        ):
            log = anew(*PARTS, (sayings, [], told, gone, []), 60)
            with self.subTest(swaps=told, absences=gone):
                self.assertEqual([entry[4] for entry in log], hands)

    def test_sayings_and_quietings_that_come_later(self):
        sayings = [(1, OLD, 3, 0, None), (2, OLD + (("zone", "n"),), 3, 40, None)]
        log = anew(*PARTS, (sayings, [(1, (), 20, 30)], [], [], []), 60)
        self.assertEqual([entry[0] for entry in log], [2, 7, 12, 32, 37, 42])
        self.assertEqual([entry[5] for entry in log], [[1]] * 5 + [[1, 2]])
        self.assertEqual(anew(*PARTS, (sayings, [(1, (), 20, 30)], [], [], []), 15), log[:3])

    def test_far_turns(self):
        tree = row(wait=10**9, again=10**8, chain=("day", "night"))
        records = (
            [(1, OLD, 3, 5, None), (2, (), 0, 10**11, 10**11 + 10**10)],
            [(1, (), 10**12 - 7 * 10**9, 10**12 - 6 * 10**9)],
            [("day", "ann", "bob", 10**9, 10**10)],
            [("cyd", 0, 10**10), ("dan", 0, 10**10), ("ann", 10**9 + 10**8, 10**10)],
            [(10**11 + 10**9 + 1, (), ())],
        )
        first, second, third = 10**9 + 5, 10**11 + 10**9, 10**12 - 5 * 10**9
        log = anew(tree, ROTAS, [], "head", records, 10**12)
        self.assertEqual([entry[0] for entry in log], [first, first + 10**8, first + 2 * 10**8, second, third, third + 10**8, third + 2 * 10**8])
        self.assertEqual([entry[4] for entry in log[:3]], ["bob", "head", "head"])
        self.assertEqual([entry[5] for entry in log], [[1]] * 3 + [[1, 2]] + [[1]] * 3)


class HousesTest(unittest.TestCase):
    def test_behind_many_deeds(self):
        chance = random.Random("anew")
        called = 0
        for parts in houses("anew", 60):
            house = lived_house(chance, parts, 60)
            log, records, now = house.log(), house.records(), house.now()
            called += len(log)
            with self.subTest(parts=parts, records=records, now=now):
                self.assertEqual(anew(*parts, records, now), log)
                for turn in chance.sample(range(now + 1), 3):
                    self.assertEqual(anew(*parts, records, turn), [entry for entry in log if entry[0] < turn])
                self.check_later(parts, house, now + chance.randint(1, 40))
                self.check_later(parts, house, 10**9 + chance.randint(1, 40))
        self.assertGreater(called, 1000)

    def check_later(self, parts, house, turn):
        told = anew(*parts, house.records(), turn)
        if turn < 10**9:
            self.assertEqual(told, closings_by_the_words(parts, house.records(), [], 0, turn)[1])
        house.until(turn)
        self.assertEqual(house.log(), told)

    def test_behind_each_deed(self):
        chance = random.Random("each")
        for parts in houses("each", 15):
            for number in range(0, 40, 3):
                house = lived_house(random.Random(chance.random()), parts, number)
                with self.subTest(parts=parts, number=number):
                    self.assertEqual(anew(*parts, house.records(), house.now()), house.log())

    def test_deeds_far_apart(self):
        house = House(*PARTS)
        turn = 0
        for k in range(40):
            turn += 10**9 * (k % 3) + k
            house.come(turn, OLD + (("zone", "z" + str(k)),), k % 10)
            house.quiet(turn, (("is", "zone", ("z" + str(k),)),), turn + 10, turn + 10**8)
            house.away(turn, "ann", turn, turn + 10**8)
        self.assertEqual(anew(*PARTS, house.records(), house.now()), house.log())
        self.assertGreater(len(house.log()), 60)


class OwnTest(unittest.TestCase):
    def test_nothing_handed_in_is_changed_and_what_is_told_is_the_askers_own(self):
        chance = random.Random("own")
        for parts in houses("own", 10):
            house = lived_house(chance, parts, 40)
            handed = parts + (house.records(), house.now() + 5)
            copied = copy.deepcopy(handed)
            told = anew(*handed)
            kept = copy.deepcopy(told)
            self.assertEqual(handed, copied)
            spoil(told)
            self.assertEqual(handed, copied)
            self.assertEqual(anew(*handed), kept)


if __name__ == "__main__":
    unittest.main()
