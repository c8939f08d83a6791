"""Point 24: the hand of a call."""

import copy
import random
import unittest

from belfry.calls import hand_of
from belfry.rotas import hand_on
from made import absences, rota, row, swaps

DAY = (("ann", "bob", "cyd"), 0, 10)
NIGHT = (("dan", "ann"), 5, 10)
ROTAS = [("day", DAY), ("night", NIGHT)]
ROW = row(chain=("day", "night"))


class HandOfTest(unittest.TestCase):
    def assert_hand(self, hand, step, turn, swaps=(), absences=(), one=ROW, rotas=ROTAS, top="head"):
        with self.subTest(row=one, step=step, turn=turn, swaps=swaps, absences=absences):
            self.assertEqual(hand_of(one, step, turn, list(rotas), list(swaps), list(absences), top), hand)

    def test_by_the_rota_at_its_step(self):
        for turn, day, night in ((0, "ann", "ann"), (4, "ann", "ann"), (5, "ann", "dan"), (10, "bob", "dan"), (20, "cyd", "ann")):
            self.assert_hand(day, 0, turn)
            self.assert_hand(night, 1, turn)
            self.assert_hand(night, 1, turn, rotas=ROTAS[::-1])

    def test_the_top_at_the_chains_length(self):
        for turn in (0, 5, 10, 10**12):
            self.assert_hand("head", 2, turn)
            self.assert_hand("head", 0, turn, one=row())
            self.assert_hand("head", 4, turn, one=row(chain=("day",) * 4))
            self.assert_hand("ann", 2, turn, one=row(), top="ann")

    def test_an_empty_chain_without_rotas(self):
        self.assert_hand("head", 0, 7, one=row(), rotas=[])

    def test_alike_names_in_a_chain(self):
        one = row(chain=("night", "day", "night", "night"))
        for step, hand in enumerate(("dan", "bob", "dan", "dan", "head")):
            self.assert_hand(hand, step, 12, one=one)

    def test_swaps_of_that_rota(self):
        told = [("day", "ann", "bob", 3, 8), ("day", "bob", "cyd", 5, 8)]
        for turn, hand in ((2, "ann"), (3, "bob"), (4, "bob"), (5, "cyd"), (7, "cyd"), (8, "ann")):
            self.assert_hand(hand, 0, turn, told)
        self.assert_hand("bob", 0, 6, told[::-1])

    def test_swaps_of_others_do_not_matter(self):
        told = [("night", "dan", "ann", 0, 40)]
        for turn, day, night in ((0, "ann", "dan"), (5, "ann", "ann"), (10, "bob", "ann")):
            self.assert_hand(day, 0, turn, told)
            self.assert_hand(night, 1, turn, told)
        both = [("other", "ann", "bob", 0, 40), ("night", "dan", "ann", 0, 40), ("day", "ann", "cyd", 0, 40)]
        self.assert_hand("cyd", 0, 6, both)
        self.assert_hand("ann", 1, 6, both)

    def test_the_same_hands_in_two_rotas(self):
        rotas = [("day", DAY), ("late", DAY)]
        one = row(chain=("day", "late"))
        self.assert_hand("bob", 0, 6, [("day", "ann", "bob", 0, 40)], one=one, rotas=rotas)
        self.assert_hand("ann", 1, 6, [("day", "ann", "bob", 0, 40)], one=one, rotas=rotas)

    def test_absences_go_for_all_rotas(self):
        gone = [("ann", 0, 30)]
        self.assert_hand("bob", 0, 2, absences=gone)
        self.assert_hand("dan", 1, 2, absences=gone)
        self.assert_hand("ann", 0, 30, absences=gone)

    def test_the_top_where_the_rota_has_nobody(self):
        gone = [("ann", 0, 30), ("dan", 10, 20)]
        for turn, hand in ((9, "dan"), (10, "head"), (19, "head"), (20, "dan")):
            self.assert_hand(hand, 1, turn, absences=gone)
        self.assert_hand("bob", 0, 15, absences=gone)

    def test_the_top_is_not_looked_at_as_a_hand(self):
        """A top with a hand's name is told even where that hand is away."""
        gone = [("ann", 0, 30), ("dan", 10, 20)]
        self.assert_hand("ann", 1, 15, absences=gone, top="ann")
        self.assert_hand("day", 1, 15, absences=gone, top="day")

    def test_hands_rotas_and_top_with_alike_names(self):
        rotas = [("ann", (("bob", "top"), 0, 10)), ("bob", (("ann",), 0, 10))]
        one = row(chain=("ann", "bob"))
        self.assert_hand("bob", 0, 3, one=one, rotas=rotas)
        self.assert_hand("ann", 1, 3, one=one, rotas=rotas)
        self.assert_hand("top", 0, 3, [("ann", "bob", "top", 0, 5), ("bob", "bob", "top", 0, 5)], one=one, rotas=rotas)

    def test_made(self):
        chance = random.Random("calls")
        found = set()
        for _ in range(200):
            rotas = [(name, rota(chance)) for name in ("one", "two", "night")]
            told = [(name,) + swap for name, one in rotas for swap in swaps(chance, one[0])]
            chance.shuffle(told)
            gone = absences(chance, rotas[0][1][0])
            chain = tuple(chance.choice(rotas)[0] for _ in range(chance.randint(0, 4)))
            for step in range(len(chain) + 1):
                turn = chance.randint(0, 50)
                hand = None
                if step < len(chain):
                    own = [swap[1:] for swap in told if swap[0] == chain[step]]
                    hand = hand_on(dict(rotas)[chain[step]], own, gone, turn)
                found.add(hand)
                self.assert_hand("head" if hand is None else hand, step, turn, told, gone, row(chain=chain), rotas)
        self.assertEqual(len(found), 9)


class OwnTest(unittest.TestCase):
    def test_nothing_handed_in_is_changed(self):
        handed = (ROW, 0, 6, list(ROTAS), [("night", "dan", "ann", 0, 9), ("day", "ann", "bob", 0, 9)], [("bob", 5, 7)], "head")
        copied = copy.deepcopy(handed)
        self.assertEqual(hand_of(*handed), "cyd")
        self.assertEqual(handed, copied)


if __name__ == "__main__":
    unittest.main()
