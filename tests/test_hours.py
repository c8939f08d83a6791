"""Point 18: the hours of a rota, as stretches."""

import random
import unittest

from belfry.hours import hours
from belfry.rotas import hand_on
from made import absences, rota, swaps

THREE = (("ann", "bob", "cyd"), 100, 10)


class HoursTest(unittest.TestCase):
    def assert_hours(self, one, told, gone, first, last, turns):
        """What 18 says of the stretches, the hands looked at in these turns."""
        with self.subTest(rota=one, swaps=told, absences=gone, first=first, last=last):
            found = hours(one, told, gone, first, last)
            self.assertIs(type(found), list)
            self.assertEqual({type(stretch) for stretch in found}, {tuple})
            self.assertEqual([stretch[0] for stretch in found], [first] + [stretch[1] for stretch in found[:-1]])
            self.assertEqual(found[-1][1], last)
            self.assertTrue(all(begin < end for begin, end, _ in found))
            self.assertTrue(all(ahead[2] != behind[2] for ahead, behind in zip(found, found[1:])))
            for turn in turns:
                hand = [hand for begin, end, hand in found if begin <= turn < end]
                self.assertEqual(hand, [hand_on(one, told, gone, turn)])

    def test_turns_alone(self):
        self.assertEqual(hours(THREE, [], [], 100, 130), [(100, 110, "ann"), (110, 120, "bob"), (120, 130, "cyd")])
        self.assertEqual(hours(THREE, [], [], 105, 121), [(105, 110, "ann"), (110, 120, "bob"), (120, 121, "cyd")])
        self.assertEqual(hours(THREE, [], [], 109, 110), [(109, 110, "ann")])
        self.assertEqual(hours(THREE, [], [], 110, 111), [(110, 111, "bob")])
        self.assertEqual(hours(THREE, [], [], 102, 103), [(102, 103, "ann")])

    def test_ahead_of_the_rotas_first(self):
        self.assertEqual(hours(THREE, [], [], 85, 105), [(85, 90, "bob"), (90, 100, "cyd"), (100, 105, "ann")])
        self.assertEqual(hours(THREE, [], [], 0, 15), [(0, 10, "cyd"), (10, 15, "ann")])

    def test_one_hand_is_one_stretch(self):
        self.assertEqual(hours((("ann",), 5, 1), [], [], 0, 200), [(0, 200, "ann")])

    def test_swaps(self):
        told = [("ann", "bob", 105, 115)]
        self.assertEqual(hours(THREE, told, [], 100, 120), [(100, 105, "ann"), (105, 110, "bob"), (110, 115, "ann"), (115, 120, "bob")])
        self.assertEqual(hours(THREE, told, [], 106, 112), [(106, 110, "bob"), (110, 112, "ann")])
        told = [("ann", "bob", 100, 110)]
        self.assertEqual(hours(THREE, told, [], 95, 125), [(95, 100, "cyd"), (100, 120, "bob"), (120, 125, "cyd")])

    def test_absences(self):
        gone = [("bob", 90, 118), ("cyd", 112, 113)]
        self.assertEqual(
            hours(THREE, [], gone, 100, 125),
            [(100, 110, "ann"), (110, 112, "cyd"), (112, 113, "ann"), (113, 118, "cyd"), (118, 120, "bob"), (120, 125, "cyd")],
        )

    def test_nobody(self):
        gone = [("ann", 0, 112), ("bob", 104, 200), ("cyd", 104, 108), ("cyd", 107, 110)]
        self.assertEqual(hours(THREE, [], gone, 100, 125), [(100, 104, "bob"), (104, 110, None), (110, 125, "cyd")])
        self.assertEqual(hours((("ann",), 5, 1), [], [("ann", 0, 300), ("ann", 300, 301)], 0, 301), [(0, 301, None)])

    def test_two_hundred_times_long(self):
        for long in (1, 7, 10**9):
            one = (("ann", "bob"), 3, long)
            found = hours(one, [], [], 3, 3 + 200 * long)
            self.assertEqual(found, [(3 + k * long, 3 + (k + 1) * long, ("ann", "bob")[k % 2]) for k in range(200)])

    def test_long_very_great(self):
        one = (("ann", "bob", "cyd"), 10**11, 10**9)
        told = [("ann", "cyd", 10**11 - 5, 10**11 + 10**9 // 2), ("bob", "cyd", 10**10, 10**12)]
        gone = [("cyd", 10**11 - 3 * 10**9, 10**11 + 7), ("ann", 10**11, 10**11 + 1), ("bob", 0, 10**12)]
        edges = [edge for change in told + gone for edge in change[-2:]] + [10**11 + k * 10**9 for k in range(-100, 101)]
        for first, last in ((0, 2 * 10**11), (10**11 - 10**9 - 3, 10**11 + 10**9), (10**11 - 5, 10**11 + 7), (0, 1)):
            near = [edge + d for edge in edges for d in (-1, 0, 1)]
            self.assert_hours(one, told, gone, first, last, [turn for turn in near if first <= turn < last])
        self.assertEqual(hours((("ann", "bob"), 10**12, 10**9), [], [], 5, 9), [(5, 9, "ann")])

    def test_turn_by_turn(self):
        chance = random.Random("hours")
        for _ in range(300):
            one = rota(chance)
            first = chance.randint(0, 30)
            last = first + chance.randint(1, min(60, 200 * one[2]))
            self.assert_hours(one, swaps(chance, one[0]), absences(chance, one[0]), first, last, range(first, last))

    def test_what_is_told_is_the_askers_own(self):
        told, gone = [("ann", "bob", 105, 115)], [("bob", 90, 118)]
        found = hours(THREE, told, gone, 100, 130)
        kept = list(found)
        found.clear()
        self.assertEqual(hours(THREE, told, gone, 100, 130), kept)
        self.assertEqual((told, gone), ([("ann", "bob", 105, 115)], [("bob", 90, 118)]))


if __name__ == "__main__":
    unittest.main()
