"""Points 15 to 17, and of 4 what concerns them: the hand that is on."""

import random
import unittest
from itertools import permutations, product

from belfry.rotas import hand_on, is_away, swapped, turn_of
from made import absences, rota, swaps

THREE = (("ann", "bob", "cyd"), 100, 10)
EIGHT = (tuple("abcdefgh"), 7, 3)


class TurnTest(unittest.TestCase):
    def assert_turns(self, one, told):
        for turn, hand in told:
            with self.subTest(rota=one, turn=turn):
                self.assertEqual(turn_of(one, turn), hand)

    def test_from_first_on(self):
        self.assert_turns(
            THREE,
            (
                (100, "ann"), (101, "ann"), (109, "ann"), (110, "bob"), (119, "bob"), (120, "cyd"), (129, "cyd"),
                (130, "ann"), (139, "ann"), (140, "bob"), (100 + 30 * 10**9, "ann"), (10**12, "ann"),
            ),
        )

    def test_ahead_of_first(self):
        self.assert_turns(
            THREE,
            (
                (99, "cyd"), (91, "cyd"), (90, "cyd"), (89, "bob"), (80, "bob"), (79, "ann"), (70, "ann"), (69, "cyd"),
                (0, "cyd"), (9, "cyd"), (10, "ann"),
            ),
        )

    def test_one_hand(self):
        for turn in (0, 4, 5, 6, 7, 8, 10**12):
            self.assert_turns(((("ann",), 5, 2)), ((turn, "ann"),))

    def test_eight_hands(self):
        self.assert_turns(EIGHT, [(7 + 3 * k + rest, "abcdefgh"[k % 8]) for k in range(20) for rest in range(3)])
        self.assert_turns(EIGHT, ((6, "h"), (4, "h"), (3, "g"), (1, "g"), (0, "f")))

    def test_long_one(self):
        self.assert_turns((("ann", "bob"), 3, 1), ((0, "bob"), (1, "ann"), (2, "bob"), (3, "ann"), (4, "bob")))

    def test_long_very_great(self):
        great = (("ann", "bob", "cyd"), 10**12, 10**9)
        self.assert_turns(great, ((10**12, "ann"), (10**12 - 1, "cyd"), (10**12 - 10**9, "cyd"), (10**12 - 10**9 - 1, "bob")))
        self.assert_turns((("ann", "bob"), 1, 10**9), ((0, "bob"), (1, "ann"), (10**9, "ann"), (10**9 + 1, "bob")))

    def test_turn_by_turn(self):
        for hands, first, long in product(("a", "ab", "abcde"), (0, 1, 11, 30), (1, 2, 5)):
            # Counted on from a beginning that lies whole rounds ahead of first.
            counted = [hand for _ in range(40) for hand in hands for _ in range(long)]
            begin = first - 20 * len(hands) * long
            self.assert_turns((tuple(hands), first, long), [(turn, counted[turn - begin]) for turn in range(60) if turn - begin < len(counted)])


class SwappedTest(unittest.TestCase):
    def test_no_swap(self):
        self.assertEqual(swapped("ann", [], 5), "ann")

    def test_both_ways_from_first_to_the_one_ahead_of_last(self):
        told = [("ann", "bob", 5, 8)]
        for turn in range(12):
            within = 5 <= turn < 8
            with self.subTest(turn=turn):
                self.assertEqual(swapped("ann", told, turn), "bob" if within else "ann")
                self.assertEqual(swapped("bob", told, turn), "ann" if within else "bob")
                self.assertEqual(swapped("cyd", told, turn), "cyd")

    def test_one_turn(self):
        told = [("ann", "bob", 5, 6)]
        self.assertEqual([swapped("ann", told, turn) for turn in (4, 5, 6)], ["ann", "bob", "ann"])

    def test_each_changes_what_those_ahead_left(self):
        first = ("ann", "bob", 0, 10)
        second = ("bob", "cyd", 0, 10)
        self.assertEqual([swapped(hand, [first, second], 5) for hand in ("ann", "bob", "cyd")], ["cyd", "ann", "bob"])
        self.assertEqual([swapped(hand, [second, first], 5) for hand in ("ann", "bob", "cyd")], ["bob", "cyd", "ann"])

    def test_the_same_twice_is_none(self):
        for other in (("ann", "bob", 0, 10), ("bob", "ann", 3, 7)):
            self.assertEqual(swapped("ann", [("ann", "bob", 0, 10), other], 5), "ann")
            self.assertEqual(swapped("bob", [("ann", "bob", 0, 10), other], 5), "bob")

    def test_over_one_another_in_part(self):
        first = ("ann", "bob", 2, 6)
        second = ("bob", "cyd", 4, 8)
        self.assertEqual([swapped("ann", [first, second], turn) for turn in range(10)], ["ann"] * 2 + ["bob"] * 2 + ["cyd"] * 2 + ["ann"] * 4)
        self.assertEqual([swapped("ann", [second, first], turn) for turn in range(10)], ["ann"] * 2 + ["bob"] * 4 + ["ann"] * 4)
        self.assertEqual([swapped("cyd", [second, first], turn) for turn in range(10)], ["cyd"] * 4 + ["ann"] * 2 + ["bob"] * 2 + ["cyd"] * 2)

    def test_made_swaps(self):
        chance = random.Random("swaps")
        for _ in range(200):
            hands = rota(chance)[0]
            told = swaps(chance, hands)
            for turn in range(40):
                whose = {hand: hand for hand in hands}
                for one, other, first, last in told:
                    if turn in range(first, last):
                        for hand, left in list(whose.items()):
                            whose[hand] = {one: other, other: one}.get(left, left)
                with self.subTest(swaps=told, turn=turn):
                    self.assertEqual({hand: swapped(hand, told, turn) for hand in hands}, whose)


class AwayTest(unittest.TestCase):
    def test_from_first_to_the_one_ahead_of_last(self):
        told = [("ann", 5, 8)]
        for turn in range(12):
            with self.subTest(turn=turn):
                self.assertIs(is_away("ann", told, turn), 5 <= turn < 8)
                self.assertIs(is_away("bob", told, turn), False)
                self.assertIs(is_away("ann", [], turn), False)

    def test_over_one_another_in_any_order(self):
        told = [("ann", 2, 6), ("ann", 4, 8), ("bob", 1, 9), ("ann", 12, 13), ("ann", 5, 6)]
        for order in permutations(told):
            for turn in range(15):
                with self.subTest(order=order, turn=turn):
                    self.assertIs(is_away("ann", list(order), turn), turn in (2, 3, 4, 5, 6, 7, 12))
                    self.assertIs(is_away("bob", list(order), turn), 1 <= turn < 9)


class HandOnTest(unittest.TestCase):
    def test_whose_turn_it_is(self):
        self.assertEqual([hand_on(THREE, [], [], turn) for turn in (99, 100, 109, 110, 129, 130)], ["cyd", "ann", "ann", "bob", "cyd", "ann"])

    def test_behind_all_swaps(self):
        told = [("ann", "bob", 100, 105), ("bob", "cyd", 104, 120)]
        self.assertEqual(
            [hand_on(THREE, told, [], turn) for turn in (99, 100, 103, 104, 105, 109, 110, 119, 120)],
            ["cyd", "bob", "bob", "cyd", "ann", "ann", "cyd", "cyd", "cyd"],
        )

    def test_the_next_one_where_it_is_away(self):
        self.assertEqual(hand_on(THREE, [], [("ann", 100, 105)], 104), "bob")
        self.assertEqual(hand_on(THREE, [], [("ann", 100, 105)], 105), "ann")
        self.assertEqual(hand_on(THREE, [], [("ann", 100, 105), ("bob", 0, 200)], 104), "cyd")
        self.assertEqual(hand_on(THREE, [], [("bob", 0, 200)], 104), "ann")

    def test_going_round(self):
        self.assertEqual(hand_on(THREE, [], [("cyd", 0, 200)], 125), "ann")
        self.assertEqual(hand_on(THREE, [], [("cyd", 0, 200), ("ann", 0, 200)], 125), "bob")
        self.assertEqual(hand_on(THREE, [], [("bob", 0, 200), ("cyd", 0, 200)], 115), "ann")

    def test_the_next_one_goes_by_the_hands_not_by_the_swaps(self):
        told = [("ann", "bob", 0, 200)]
        self.assertEqual(hand_on(THREE, told, [("bob", 0, 200)], 104), "cyd")
        self.assertEqual(hand_on(THREE, told, [("ann", 0, 200)], 115), "bob")

    def test_hands_that_are_none_of_the_rota(self):
        self.assertEqual(hand_on(THREE, [], [("dan", 0, 200), ("an", 0, 200)], 104), "ann")

    def test_nobody_where_all_are_away(self):
        told = [("cyd", 90, 110), ("ann", 100, 104), ("bob", 95, 103), ("ann", 103, 105)]
        for order in permutations(told):
            on = [hand_on(THREE, [], list(order), turn) for turn in (99, 100, 101, 102, 103, 104, 105)]
            self.assertEqual(on, ["ann", None, None, None, "bob", "bob", "ann"])
        self.assertIsNone(hand_on((("ann",), 0, 1), [], [("ann", 3, 5)], 4))
        self.assertEqual(hand_on((("ann",), 0, 1), [], [("ann", 3, 5)], 5), "ann")

    def test_eight_hands(self):
        for away in product((True, False), repeat=8):
            told = [(hand, 0, 100) for hand, truth in zip("abcdefgh", away) if truth]
            for turn in (7, 16, 28, 30):
                at = "abcdefgh".index(turn_of(EIGHT, turn))
                there = [(k - at) % 8 for k in range(8) if not away[k]]
                with self.subTest(away=told, turn=turn):
                    self.assertEqual(hand_on(EIGHT, [], told, turn), "abcdefgh"[(min(there) + at) % 8] if there else None)

    def test_made_rotas(self):
        chance = random.Random("on")
        nobody = 0
        for _ in range(150):
            one = rota(chance)
            hands = one[0]
            told, gone = swaps(chance, hands), absences(chance, hands)
            for turn in range(40):
                hand = swapped(turn_of(one, turn), told, turn)
                for _ in hands:
                    if is_away(hand, gone, turn):
                        hand = (hands + hands)[hands.index(hand) + 1]
                if is_away(hand, gone, turn):
                    hand = None
                    nobody += 1
                with self.subTest(rota=one, swaps=told, absences=gone, turn=turn):
                    self.assertEqual(hand_on(one, told, gone, turn), hand)
        self.assertGreater(nobody, 100)


class CoveredTest(unittest.TestCase):
    """Point 4: swaps, put in whatever order, leave the same turns of a rota covered."""

    def test_any_order_of_swaps(self):
        chance = random.Random("covered")
        found = {True: 0, False: 0}
        for _ in range(40):
            one = rota(chance)
            told, gone = swaps(chance, one[0])[:4], absences(chance, one[0])
            for turn in range(0, 40, 3):
                covered = {hand_on(one, list(order), gone, turn) is not None for order in permutations(told)}
                covered.add(hand_on(one, [], gone, turn) is not None)
                with self.subTest(rota=one, swaps=told, absences=gone, turn=turn):
                    self.assertEqual(len(covered), 1)
                found[covered.pop()] += 1
        self.assertGreater(min(found.values()), 20)


if __name__ == "__main__":
    unittest.main()
