"""Point 4: the promise over the whole, behind any deeds of a house."""

import random
import unittest
from itertools import permutations

from belfry.anew import anew
from belfry.cases import bears, shown
from belfry.house import House
from belfry.members import members
from belfry.quieting import ground, in_force, stands
from belfry.rotas import hand_on
from belfry.trees import places, row_at, taken
from made import houses, lived_house, row


class PromiseTest(unittest.TestCase):
    @classmethod
    def setUpClass(cls):
        chance = random.Random("promise")
        cls.lived = []
        for parts in houses("promise", 60):
            house = lived_house(chance, parts, 70)
            records = house.records()
            closes = [members(parts[0], records[0], records[1], parts[2], turn) for turn in range(house.now())]
            cls.lived.append((parts, house, records, closes))

    def each(self):
        for parts, house, records, closes in self.lived:
            with self.subTest(parts=parts, records=records, now=house.now()):
                yield parts, house, records, [{group[:2]: group[2] for group in close} for close in closes]

    def test_the_log_is_reckoned_anew(self):
        for parts, house, records, _ in self.each():
            self.assertEqual(anew(*parts, records, house.now()), house.log())

    def test_each_entry_names_the_members_to_the_hand_that_was_on(self):
        found = {"hand": 0, "nobody": 0, "end": 0}
        for (tree, rotas, _, top), house, records, closes in self.each():
            for turn, place, key, step, hand, numbers in house.log():
                self.assertEqual(numbers, closes[turn][(place, key)])
                chain = row_at(tree, place)[5]
                self.assertLessEqual(step, len(chain))
                if step == len(chain):
                    found["end"] += 1
                    self.assertEqual(hand, top)
                    continue
                swaps = [swap[1:] for swap in records[2] if swap[0] == chain[step]]
                on = hand_on(dict(rotas)[chain[step]], swaps, records[3], turn)
                found["nobody" if on is None else "hand"] += 1
                self.assertEqual(hand, top if on is None else on)
        self.assertGreater(min(found.values()), 20, found)

    def test_no_member_is_left_without_a_call(self):
        found = 0
        for (tree, _, _, _), house, _, closes in self.each():
            named = {(turn, place, key, number) for turn, place, key, _, _, numbers in house.log() for number in numbers}
            for turn, close in enumerate(closes):
                for group, numbers in close.items():
                    most = max(row_at(tree, group[0])[3:5])
                    for number in numbers:
                        ahead = closes[turn - 1].get(group, []) if turn else []
                        turns = range(turn, turn + most + 1)
                        if number in ahead or turns[-1] >= len(closes):
                            continue
                        if all(number in closes[at].get(group, []) for at in turns):
                            found += 1
                            self.assertTrue(any((at,) + group + (number,) in named for at in turns), (turn, group, number))
        self.assertGreater(found, 500)

    def test_calls_lie_apart(self):
        found = {True: 0, False: 0}
        for (tree, _, _, _), house, _, closes in self.each():
            last_of = {}
            for turn, place, key, _, _, _ in house.log():
                group = (place, key)
                if group in last_of:
                    wait, again = row_at(tree, place)[3:5]
                    apart = turn - last_of[group]
                    always = all(group in closes[at] for at in range(last_of[group], turn))
                    found[always] += 1
                    self.assertGreaterEqual(apart, again if always else min(wait, again))
                last_of[group] = turn
        self.assertGreater(min(found.values()), 100, found)

    def test_what_is_quieted_has_a_ground(self):
        found = {"told": 0, "greater": 0}
        for (tree, _, rules, _), house, (sayings, quietings, _, _, _), closes in self.each():
            for turn in range(0, house.now(), 3):
                there = {saying[0]: saying for saying in sayings if stands(saying, turn)}
                grounds = {number: ground(saying, sayings, quietings, rules, turn) for number, saying in there.items()}
                not_quieted = {number for numbers in closes[turn].values() for number in numbers}
                self.assertEqual(not_quieted, {number for number, told in grounds.items() if told is None})
                forcing = [quieting[0] for quieting in quietings if in_force(quieting, turn)]
                for number, told in grounds.items():
                    if told is None:
                        continue
                    found[told[0]] += 1
                    if told[0] == "told":
                        self.assertIn(told[1], forcing)
                        continue
                    self.assertGreater(there[told[2]][2], there[number][2])
                    self.assertNotEqual((grounds[told[2]] or ())[2:], (number,))
        self.assertGreater(min(found.values()), 300, found)

    def test_the_houses_own_grounds(self):
        for (_, _, rules, _), house, (sayings, quietings, _, _, _), _ in self.each():
            for saying in sayings:
                if stands(saying, house.now()):
                    self.assertEqual(house.ground_of(saying[0]), ground(saying, sayings, quietings, rules, house.now()))

    def test_each_row_is_shown(self):
        found = {"marks": 0, "cases": 0}
        for (tree, _, _, _), _, _, _ in self.each():
            for place in places(tree):
                word, told = shown(tree, place)
                found[word] += 1
                if word == "marks":
                    self.assertIn(place, taken(tree, told))
                else:
                    self.assertTrue(bears(tree, place, told))
        self.assertGreater(min(found.values()), 20, found)

    def test_swaps_in_whatever_order_leave_the_same_turns_covered(self):
        found = {True: 0, False: 0}
        for (_, rotas, _, _), house, records, _ in self.each():
            for name, rota in rotas:
                swaps = [swap[1:] for swap in records[2] if swap[0] == name][:4]
                for turn in range(0, house.now() + 9, 4):
                    covered = {hand_on(rota, list(order), records[3], turn) is not None for order in permutations(swaps)}
                    self.assertEqual(len(covered), 1)
                    found[covered.pop()] += 1
        self.assertGreater(min(found.values()), 20, found)


class AlikeNamesTest(unittest.TestCase):
    """Hands, rotas, names and values of marks, and the top are called alike; none is taken for another."""

    def test_alike(self):
        tree = row(by=("a",), wait=1, again=2, chain=("a", "b"), rows=(row((("is", "a", ("b",)),), False, ("b",), 2, 3, ("b",)),))
        rotas = [("a", (("a", "b"), 0, 3)), ("b", (("b", "c"), 0, 1))]
        house = House(tree, rotas, [((("is", "b", ("a",)),), (("is", "a", ("c",)),), ())], "a")
        house.come(0, (("a", "b"),), 1)
        house.come(0, (("a", "a"), ("b", "b")), 2)
        house.swap(0, "b", "b", "c", 1, 3)
        house.away(0, "a", 1, 2)
        house.until(9)
        self.assertEqual(
            house.log(),
            [
                (1, (), ("a",), 0, "b", [2]),
                (2, (0,), ("",), 0, "c", [1]),
                (3, (), ("a",), 1, "c", [2]),
                (5, (), ("a",), 2, "a", [2]),
                (5, (0,), ("",), 1, "a", [1]),
            ],
        )
        self.assertEqual(anew(tree, rotas, [], "a", house.records(), 9), house.log())


if __name__ == "__main__":
    unittest.main()
