"""Points 25 to 30: the house, its deeds, and what it tells."""

import copy
import random
import unittest

from belfry.errors import Late, NoStretch, Twice, Unknown
from belfry.house import House
from made import (
    all_marks,
    closings_by_the_words,
    deed,
    houses,
    members_by_the_words,
    on_by_the_words,
    refusal_by_the_words,
    row,
    spoil,
)

LIVE = (("is", "env", ("live",)),)
# What has a host is taken by (0,), live ones by (1,), too; all else by the tree's own row.
TREE = row(
    by=("env",),
    wait=2,
    again=5,
    chain=("day", "night"),
    rows=(row((("there", "host", ()),), True, ("host",), 1, 3, ("night",)), row(LIVE, False, (), 4, 6)),
)
ROTAS = [("day", (("ann", "bob"), 0, 10)), ("night", (("cyd", "dan", "ann"), 0, 7))]
RULES = [((("lacks", "host", ()),), (("there", "host", ()),), ("env",))]
OLD = (("env", "old"),)
DB = (("env", "live"), ("host", "db"))
WEB = (("env", "live"), ("host", "web"))
OWN = ((), ("old",))


def new_house(tree=TREE, rotas=ROTAS, rules=RULES, top="head"):
    return House(tree, rotas, rules, top)


def seen(house):
    """All that a house tells of itself."""
    return copy.deepcopy((house.now(), house.records(), house.log(), house.open_groups(), house.states()))


class HouseTest(unittest.TestCase):
    def assert_refused(self, kind, house, name, *handed):
        ahead = seen(house)
        with self.subTest(deed=name, handed=handed):
            with self.assertRaises(kind) as caught:
                getattr(house, name)(*handed)
            self.assertIs(type(caught.exception), kind)
            self.assertEqual(seen(house), ahead)


class AtFirstTest(HouseTest):
    def test_nothing_is_there(self):
        house = new_house()
        self.assertEqual(house.now(), 0)
        self.assertEqual(house.records(), ([], [], [], [], []))
        self.assertEqual((house.log(), house.open_groups(), house.states()), ([], [], []))

    def test_a_house_of_little(self):
        house = House(row(), [], [], "head")
        house.come(0, (), 0)
        house.until(2)
        self.assertEqual(house.log(), [(1, (), (), 0, "head", [1])])


class TurnsTest(HouseTest):
    def test_a_deed_takes_the_house_to_its_turn(self):
        house = new_house()
        house.come(0, OLD, 3)
        self.assertEqual(house.now(), 0)
        house.until(0)
        self.assertEqual((house.now(), house.states()), (0, []))
        house.come(1, DB, 3)
        self.assertEqual((house.now(), house.states()), (1, [OWN + ([], 0, 2, None)]))

    def test_each_deed_does(self):
        house = new_house()
        for turn, name, handed in (
            (3, "come", (OLD, 1)),
            (5, "quiet", (LIVE, 30, 40)),
            (7, "swap", ("day", "ann", "bob", 30, 40)),
            (9, "away", ("cyd", 30, 40)),
            (11, "answer", OWN),
            (13, "lift", (1,)),
            (15, "go", (1,)),
            (17, "until", ()),
        ):
            getattr(house, name)(turn, *handed)
            self.assertEqual(house.now(), turn)
        self.assertEqual(house.log(), [(5, (), ("old",), 0, "ann", [1]), (10, (), ("old",), 1, "dan", [1])])

    def test_late_ahead_of_all_else(self):
        house = new_house()
        house.come(4, OLD, 3)
        house.quiet(10, LIVE, 12, 20)
        for name, handed in (
            ("come", (OLD, 3)),
            ("come", (DB, 3)),
            ("go", (1,)),
            ("go", (9,)),
            ("quiet", ((), 12, 12)),
            ("quiet", ((), 3, 9)),
            ("quiet", ((), 12, 15)),
            ("lift", (1,)),
            ("lift", (7,)),
            ("swap", ("late", "ann", "ann", 5, 5)),
            ("swap", ("day", "ann", "bob", 12, 15)),
            ("away", ("zoe", 5, 5)),
            ("away", ("ann", 12, 15)),
            ("answer", ((9,), ())),
            ("answer", OWN),
            ("until", ()),
        ):
            for turn in (9, 3, 0):
                self.assert_refused(Late, house, name, turn, *handed)
        house.until(10)
        self.assertEqual(house.now(), 10)

    def test_a_refused_deed_closes_nothing(self):
        house = new_house()
        house.come(0, OLD, 3)
        house.quiet(0, LIVE, 4, 6)
        for name, handed in (
            ("come", (OLD, 5)),
            ("go", (2,)),
            ("go", (0,)),
            ("quiet", ((), 60, 60)),
            ("quiet", ((), 49, 60)),
            ("lift", (1,)),
            ("lift", (2,)),
            ("swap", ("late", "ann", "bob", 50, 60)),
            ("swap", ("day", "ann", "ann", 50, 60)),
            ("away", ("zoe", 50, 60)),
            ("answer", ((0,), ("db",))),
        ):
            with self.assertRaises((Twice, Unknown, NoStretch, Late)):
                getattr(house, name)(50, *handed)
            self.assertEqual(house.now(), 0)
            self.assertEqual((house.log(), house.states()), ([], []))
        house.until(50)
        self.assertEqual([entry[0] for entry in house.log()], [2, 7, 12])

    def test_refused_by_the_house_behind_the_closings(self):
        house = new_house()
        house.come(0, OLD, 3)
        house.quiet(0, LIVE, 4, 6)
        # Now none of the group has a state, and the quieting is still to come.
        self.assert_refused(Unknown, house, "answer", 2, *OWN)
        self.assert_refused(Unknown, house, "lift", 6, 1)
        house.answer(3, *OWN)
        self.assertEqual([entry[0] for entry in house.log()], [2])
        house.lift(5, 1)
        self.assertEqual(house.records()[1], [(1, LIVE, 4, 5)])

    def test_until(self):
        house = new_house()
        house.come(1, OLD, 3)
        for turn, calls in ((1, []), (3, []), (4, [3]), (8, [3]), (9, [3, 8]), (13, [3, 8]), (14, [3, 8, 13]), (90, [3, 8, 13])):
            self.assertIsNone(house.until(turn))
            self.assertEqual((house.now(), [entry[0] for entry in house.log()]), (turn, calls))
        self.assertEqual(house.records()[0], [(1, OLD, 3, 1, None)])

    def test_where_it_stands_is_not_closed_yet(self):
        house = new_house()
        house.come(0, OLD, 3)
        house.until(2)
        house.go(2, 1)
        house.until(20)
        self.assertEqual(house.log(), [])

    def test_deeds_of_one_turn_close_it_once(self):
        house = new_house()
        for k in range(5):
            house.come(3, OLD + (("zone", "z" + str(k)),), 1)
            house.until(3)
        house.until(6)
        self.assertEqual(house.log(), [(5, (), ("old",), 0, "ann", [1, 2, 3, 4, 5])])


class FarTest(HouseTest):
    def test_nothing_between(self):
        house = new_house()
        house.until(10**12)
        self.assertEqual((house.now(), house.log()), (10**12, []))
        house.come(10**12, OLD, 1)
        self.assertEqual(house.open_groups(), [OWN + ([1],)])

    def test_calls_between(self):
        tree = row(wait=10**9, again=10**8, chain=("day", "night"))
        rotas = [("day", (("ann", "bob"), 0, 1)), ("night", (("cyd", "dan"), 0, 10**8))]
        house = House(tree, rotas, [], "head")
        house.come(5, OLD, 1)
        house.until(10**12)
        first = 10**9 + 5
        numbers = [(first, 0, "bob"), (first + 10**8, 1, "dan"), (first + 2 * 10**8, 2, "head")]
        self.assertEqual(house.log(), [(turn, (), (), step, hand, [1]) for turn, step, hand in numbers])

    def test_quietings_between(self):
        house = House(row(wait=10, again=10), [], [], "head")
        house.come(0, OLD, 1)
        house.quiet(0, (), 4, 10**9)
        house.quiet(0, (), 3 * 10**9, 10**11)
        house.quiet(0, LIVE, 5 * 10**9, 6 * 10**9)
        house.until(10**12)
        self.assertEqual([entry[0] for entry in house.log()], [10**9 + 10, 10**11 + 10])
        self.assertEqual(house.states(), [((), (), [1], 0, None, 10**11 + 10)])

    def test_a_quieting_that_begins_and_ends_within_a_wait(self):
        house = House(row(wait=10**10, again=1), [], [], "head")
        house.come(0, OLD, 1)
        house.quiet(0, (), 10**9, 10**9 + 1)
        house.until(10**11)
        self.assertEqual([entry[0] for entry in house.log()], [10**9 + 1 + 10**10])

    def test_many_deeds_far_apart(self):
        house = new_house()
        turn = 0
        for k in range(50):
            turn += 10**9 + k
            house.come(turn, OLD + (("zone", "z" + str(k)),), 1)
            turn += 10**9
            house.answer(turn, *OWN)
        self.assertEqual(len(house.records()[4]), 50)
        self.assertEqual(len(house.log()), 150)


class SayingsTest(HouseTest):
    def test_numbers_and_records(self):
        house = new_house()
        self.assertEqual(house.come(0, OLD, 3), 1)
        self.assertEqual(house.come(0, (), 0), 2)
        self.assertEqual(house.come(4, DB, 9), 3)
        self.assertIsNone(house.go(6, 1))
        self.assertEqual(house.come(7, OLD, 5), 4)
        self.assertEqual(house.records()[0], [(1, OLD, 3, 0, 6), (2, (), 0, 0, None), (3, DB, 9, 4, None), (4, OLD, 5, 7, None)])

    def test_twice(self):
        house = new_house()
        house.come(2, OLD, 3)
        for weight in (0, 3, 9):
            self.assert_refused(Twice, house, "come", 2, OLD, weight)
            self.assert_refused(Twice, house, "come", 30, OLD, weight)
        self.assertEqual(house.come(2, OLD + (("zone", "n"),), 3), 2)
        self.assertEqual(house.come(2, (), 3), 3)
        self.assert_refused(Twice, house, "come", 2, (), 3)

    def test_twice_though_it_is_quieted(self):
        house = new_house()
        house.come(0, DB, 3)
        house.quiet(0, (), 0, 9)
        self.assert_refused(Twice, house, "come", 5, DB, 3)

    def test_again_at_the_turn_at_which_it_went(self):
        house = new_house()
        house.come(2, OLD, 3)
        house.go(5, 1)
        self.assertEqual(house.come(5, OLD, 3), 2)
        self.assert_refused(Twice, house, "come", 5, OLD, 3)
        house.go(5, 2)
        self.assertEqual(house.come(5, OLD, 3), 3)
        self.assertEqual(house.records()[0], [(1, OLD, 3, 2, 5), (2, OLD, 3, 5, 5), (3, OLD, 3, 5, None)])
        self.assertEqual(house.open_groups(), [OWN + ([3],)])

    def test_going_of_what_does_not_stand(self):
        house = new_house()
        for number in (0, 1, 2):
            self.assert_refused(Unknown, house, "go", 4, number)
        house.come(4, OLD, 3)
        for number in (0, 2, 10**9):
            self.assert_refused(Unknown, house, "go", 4, number)
        house.go(4, 1)
        for turn in (4, 5, 60):
            self.assert_refused(Unknown, house, "go", turn, 1)

    def test_the_number_is_the_sayings_not_that_of_its_place(self):
        house = new_house()
        for k in range(4):
            house.come(k, (("env", "e" + str(k)),), 1)
        house.go(5, 3)
        self.assertEqual([saying[4] for saying in house.records()[0]], [None, None, 5, None])


class QuietingsTest(HouseTest):
    def test_numbers_and_records(self):
        house = new_house()
        self.assertEqual(house.quiet(0, LIVE, 0, 5), 1)
        self.assertEqual(house.quiet(0, (), 3, 4), 2)
        self.assertEqual(house.quiet(2, LIVE, 2, 3), 3)
        house.come(2, OLD, 1)
        self.assertEqual(house.quiet(9, LIVE, 10**12 - 1, 10**12), 4)
        self.assertEqual(
            house.records()[1], [(1, LIVE, 0, 5), (2, (), 3, 4), (3, LIVE, 2, 3), (4, LIVE, 10**12 - 1, 10**12)]
        )

    def test_no_stretch_then_late(self):
        house = new_house()
        house.until(5)
        for turn, first, last, kind in (
            (5, 7, 7, NoStretch),
            (5, 8, 7, NoStretch),
            (5, 4, 4, NoStretch),
            (5, 4, 2, NoStretch),
            (5, 5, 5, NoStretch),
            (5, 4, 9, Late),
            (5, 0, 1, Late),
            (8, 7, 9, Late),
            (8, 7, 7, NoStretch),
        ):
            self.assert_refused(kind, house, "quiet", turn, (), first, last)
        self.assertEqual(house.quiet(8, (), 8, 9), 1)

    def test_lifted_ahead_of_its_first_turn(self):
        house = new_house()
        house.quiet(0, (), 10, 20)
        self.assertIsNone(house.lift(4, 1))
        self.assertEqual(house.records()[1], [(1, (), 10, 10)])
        for turn in (4, 10, 15):
            self.assert_refused(Unknown, house, "lift", turn, 1)

    def test_lifted_at_its_first_turn(self):
        house = new_house()
        house.quiet(0, (), 10, 20)
        house.come(0, OLD, 1)
        house.lift(10, 1)
        self.assertEqual(house.records()[1], [(1, (), 10, 10)])
        self.assertEqual(house.open_groups(), [OWN + ([1],)])

    def test_lifted_in_it(self):
        house = new_house()
        house.quiet(0, (), 10, 20)
        house.come(0, OLD, 1)
        house.until(15)
        self.assertEqual((house.open_groups(), house.states()), ([], []))
        house.lift(15, 1)
        self.assertEqual(house.records()[1], [(1, (), 10, 15)])
        self.assertEqual((house.open_groups(), house.states()), ([OWN + ([1],)], []))
        self.assert_refused(Unknown, house, "lift", 15, 1)

    def test_lifted_at_its_last_turn_and_behind(self):
        house = new_house()
        house.quiet(0, (), 10, 20)
        house.quiet(0, (), 10, 20)
        house.lift(19, 2)
        self.assertEqual(house.records()[1], [(1, (), 10, 20), (2, (), 10, 19)])
        for turn in (20, 21, 99):
            self.assert_refused(Unknown, house, "lift", turn, 1)

    def test_lifting_of_none(self):
        house = new_house()
        self.assert_refused(Unknown, house, "lift", 0, 1)
        house.quiet(0, (), 10, 20)
        for number in (0, 2, 10**9):
            self.assert_refused(Unknown, house, "lift", 0, number)

    def test_a_number_stays_given(self):
        house = new_house()
        house.quiet(0, (), 10, 20)
        house.lift(0, 1)
        self.assertEqual(house.quiet(0, (), 10, 20), 2)
        house.lift(12, 2)
        self.assertEqual(house.records()[1], [(1, (), 10, 10), (2, (), 10, 12)])


class RotasTest(HouseTest):
    def test_swaps_are_noted(self):
        house = new_house()
        self.assertIsNone(house.swap(0, "day", "ann", "bob", 0, 5))
        house.swap(0, "night", "ann", "cyd", 9, 10)
        house.swap(3, "day", "bob", "ann", 3, 4)
        self.assertEqual(
            house.records()[2], [("day", "ann", "bob", 0, 5), ("night", "ann", "cyd", 9, 10), ("day", "bob", "ann", 3, 4)]
        )

    def test_refused_swaps_in_their_order(self):
        house = new_house()
        house.until(5)
        for rota, one, other, first, last, kind in (
            ("late", "ann", "bob", 6, 9, Unknown),
            ("late", "zoe", "zoe", 4, 4, Unknown),
            ("ann", "ann", "bob", 6, 9, Unknown),
            ("day", "ann", "cyd", 6, 9, Unknown),
            ("day", "cyd", "ann", 6, 9, Unknown),
            ("day", "day", "ann", 6, 9, Unknown),
            ("day", "cyd", "cyd", 6, 9, Unknown),
            ("day", "cyd", "ann", 4, 4, Unknown),
            ("day", "ann", "ann", 6, 9, Twice),
            ("day", "ann", "ann", 4, 4, Twice),
            ("day", "ann", "bob", 6, 6, NoStretch),
            ("day", "ann", "bob", 4, 4, NoStretch),
            ("day", "ann", "bob", 4, 3, NoStretch),
            ("day", "ann", "bob", 4, 9, Late),
        ):
            self.assert_refused(kind, house, "swap", 5, rota, one, other, first, last)
        self.assert_refused(Late, house, "swap", 7, "day", "ann", "bob", 6, 9)
        house.swap(5, "day", "ann", "bob", 5, 6)

    def test_absences_are_noted(self):
        house = new_house()
        self.assertIsNone(house.away(0, "dan", 4, 6))
        house.away(0, "ann", 0, 1)
        house.away(2, "dan", 5, 9)
        self.assertEqual(house.records()[3], [("dan", 4, 6), ("ann", 0, 1), ("dan", 5, 9)])

    def test_refused_absences_in_their_order(self):
        house = new_house()
        house.until(5)
        for hand, first, last, kind in (
            ("zoe", 6, 9, Unknown),
            ("day", 6, 9, Unknown),
            ("head", 6, 9, Unknown),
            ("zoe", 4, 4, Unknown),
            ("ann", 6, 6, NoStretch),
            ("ann", 4, 3, NoStretch),
            ("ann", 4, 9, Late),
        ):
            self.assert_refused(kind, house, "away", 5, hand, first, last)
        self.assert_refused(Late, house, "away", 7, "ann", 6, 9)
        house.away(5, "ann", 5, 6)

    def test_calls_go_by_swaps_and_absences(self):
        house = new_house()
        house.come(0, OLD, 1)
        house.swap(1, "day", "ann", "bob", 2, 3)
        house.away(1, "dan", 7, 8)
        house.until(20)
        self.assertEqual([entry[3:5] for entry in house.log()], [(0, "bob"), (1, "ann"), (2, "head")])

    def test_the_top_where_the_rota_has_nobody(self):
        house = new_house()
        house.come(0, OLD, 1)
        house.away(0, "ann", 2, 3)
        house.away(0, "bob", 0, 9)
        house.until(20)
        self.assertEqual([entry[3:5] for entry in house.log()], [(0, "head"), (1, "dan"), (2, "head")])

    def test_on_duty_at_any_turn(self):
        house = new_house()
        house.swap(3, "day", "ann", "bob", 8, 12)
        house.swap(3, "night", "cyd", "dan", 4, 6)
        house.away(3, "ann", 10, 11)
        house.until(50)
        turns = [(0, "ann"), (7, "ann"), (8, "bob"), (9, "bob"), (10, "bob"), (11, "ann"), (12, "bob"), (20, "ann"), (10**12, "ann")]
        for turn, hand in turns:
            self.assertEqual(house.on_duty("day", turn), hand)
        self.assertEqual([house.on_duty("night", turn) for turn in (3, 4, 5, 6, 7)], ["cyd", "dan", "dan", "cyd", "dan"])
        self.assertEqual(house.now(), 50)

    def test_on_duty_nobody_and_unknown(self):
        house = new_house()
        house.away(0, "ann", 5, 7)
        house.away(0, "bob", 6, 9)
        self.assertEqual([house.on_duty("day", turn) for turn in (4, 5, 6, 7)], ["ann", "bob", None, "ann"])
        for name in ("late", "ann", "head", "env", ""):
            self.assert_refused(Unknown, house, "on_duty", name, 6)


class AnswersTest(HouseTest):
    def called(self):
        """A house whose one group was called at turn 2, at turn 4."""
        house = new_house()
        house.come(0, OLD, 1)
        house.until(4)
        return house

    def test_noted_as_often_as_told(self):
        house = self.called()
        self.assertIsNone(house.answer(4, *OWN))
        house.answer(4, *OWN)
        house.answer(5, *OWN)
        self.assertEqual(house.records()[4], [(4,) + OWN, (4,) + OWN, (5,) + OWN])
        house.until(30)
        self.assertEqual([entry[0] for entry in house.log()], [2])

    def test_it_counts_in_its_own_turn(self):
        house = self.called()
        house.answer(7, *OWN)
        house.until(30)
        self.assertEqual([entry[0] for entry in house.log()], [2])
        house = self.called()
        house.answer(8, *OWN)
        house.until(30)
        self.assertEqual([entry[0] for entry in house.log()], [2, 7])

    def test_no_state(self):
        house = new_house()
        for turn in (0, 5):
            self.assert_refused(Unknown, house, "answer", turn, *OWN)
        house.come(0, OLD, 1)
        self.assert_refused(Unknown, house, "answer", 0, *OWN)
        for place, key in (((), ("live",)), ((), ()), ((), ("old", "")), ((0,), ("old",)), ((1,), ())):
            self.assert_refused(Unknown, house, "answer", 20, place, key)

    def test_a_place_that_the_tree_has_not(self):
        house = self.called()
        for place in ((2,), (0, 0), (9, 9, 9), (10**9,)):
            self.assert_refused(Unknown, house, "answer", 4, place, ("old",))

    def test_a_state_without_a_last(self):
        house = new_house()
        house.come(0, OLD, 1)
        house.until(1)
        self.assertEqual(house.states(), [OWN + ([], 0, 2, None)])
        self.assert_refused(Unknown, house, "answer", 1, *OWN)
        self.assert_refused(Unknown, house, "answer", 2, *OWN)
        house.answer(3, *OWN)

    def test_it_closes_others_first(self):
        house = new_house()
        house.come(0, OLD, 1)
        house.come(0, DB, 1)
        house.answer(5, (1,), ())
        self.assertEqual(house.now(), 5)
        self.assertEqual([entry[:2] for entry in house.log()], [(1, (0,)), (2, ()), (4, (0,)), (4, (1,))])

    def test_a_group_that_lost_its_members_ahead_of_the_turn(self):
        house = self.called()
        house.go(4, 1)
        # The turn 4 is not closed, so its state is there still.
        house.answer(4, *OWN)
        self.assert_refused(Unknown, house, "answer", 5, *OWN)
        house.come(6, OLD, 1)
        self.assert_refused(Unknown, house, "answer", 8, *OWN)
        house.answer(9, *OWN)

    def test_a_group_that_is_quieted_ahead_of_the_turn(self):
        house = self.called()
        house.quiet(4, (), 5, 8)
        house.answer(5, *OWN)
        self.assert_refused(Unknown, house, "answer", 6, *OWN)
        self.assert_refused(Unknown, house, "answer", 10, *OWN)
        house.answer(11, *OWN)
        self.assertEqual([entry[0] for entry in house.log()], [2, 10])


class ToldTest(HouseTest):
    def test_records_in_the_order_of_noting(self):
        house = new_house()
        house.come(0, OLD, 3)
        house.away(0, "dan", 8, 9)
        house.quiet(1, LIVE, 6, 9)
        house.come(1, DB, 2)
        house.away(2, "ann", 2, 3)
        house.swap(2, "night", "ann", "cyd", 5, 6)
        house.quiet(3, (), 3, 4)
        house.answer(3, (0,), ("db",))
        house.swap(5, "day", "ann", "bob", 5, 6)
        house.go(6, 2)
        house.lift(7, 1)
        self.assertEqual(
            house.records(),
            (
                [(1, OLD, 3, 0, None), (2, DB, 2, 1, 6)],
                [(1, LIVE, 6, 7), (2, (), 3, 4)],
                [("night", "ann", "cyd", 5, 6), ("day", "ann", "bob", 5, 6)],
                [("dan", 8, 9), ("ann", 2, 3)],
                [(3, (0,), ("db",))],
            ),
        )

    def test_the_kinds(self):
        house = new_house()
        house.come(0, OLD, 3)
        house.until(5)
        self.assertEqual([type(part) for part in (house.records(), house.log(), house.open_groups(), house.states())], [tuple, list, list, list])
        self.assertEqual([type(part) for part in house.records()], [list] * 5)
        self.assertEqual([type(part) for part in house.log()[0]], [int, tuple, tuple, int, str, list])
        self.assertEqual([type(part) for part in house.states()[0]], [tuple, tuple, list, int, int, int])

    def test_log_in_the_order_of_turns_then_of_calls(self):
        house = new_house()
        house.come(0, WEB, 1)
        house.come(0, DB, 2)
        house.come(0, OLD, 3)
        house.until(6)
        self.assertEqual(
            house.log(),
            [
                (1, (0,), ("db",), 0, "cyd", [2]),
                (1, (0,), ("web",), 0, "cyd", [1]),
                (2, (), ("old",), 0, "ann", [3]),
                (4, (0,), ("db",), 1, "head", [2]),
                (4, (0,), ("web",), 1, "head", [1]),
                (4, (1,), (), 0, "head", [1, 2]),
            ],
        )

    def test_states_behind_the_last_closing_and_what_is_open_now(self):
        house = new_house()
        house.come(0, OLD, 3)
        self.assertEqual((house.states(), house.open_groups()), ([], [OWN + ([1],)]))
        house.until(3)
        house.go(3, 1)
        self.assertEqual((house.states(), house.open_groups()), ([OWN + ([1], 1, 7, 2)], []))
        house.come(3, DB, 1)
        self.assertEqual((house.states(), house.open_groups()), ([OWN + ([1], 1, 7, 2)], [((0,), ("db",), [2]), ((1,), (), [2])]))
        house.until(4)
        self.assertEqual(house.states(), [((0,), ("db",), [], 0, 4, None), ((1,), (), [], 0, 7, None)])

    def test_what_is_quieted_is_not_open(self):
        house = new_house()
        house.come(0, DB, 1)
        house.come(2, (("env", "live"), ("zone", "n")), 5)
        self.assertEqual(house.open_groups(), [((1,), (), [2])])
        house.go(4, 2)
        self.assertEqual(house.open_groups(), [((0,), ("db",), [1]), ((1,), (), [1])])
        house.quiet(4, LIVE, 4, 6)
        self.assertEqual(house.open_groups(), [])
        house.until(5)
        self.assertEqual(house.open_groups(), [])
        house.until(6)
        self.assertEqual(house.open_groups(), [((0,), ("db",), [1]), ((1,), (), [1])])

    def test_ground_of(self):
        house = new_house()
        house.come(0, DB, 1)
        house.come(2, (("env", "live"), ("zone", "n")), 5)
        self.assertEqual((house.ground_of(1), house.ground_of(2)), (("greater", 0, 2), None))
        house.quiet(3, LIVE, 4, 6)
        self.assertEqual((house.ground_of(1), house.ground_of(2)), (("greater", 0, 2), None))
        house.until(4)
        self.assertEqual((house.ground_of(1), house.ground_of(2)), (("told", 1), ("told", 1)))
        house.go(5, 2)
        house.lift(5, 1)
        self.assertIsNone(house.ground_of(1))

    def test_ground_of_what_does_not_stand(self):
        house = new_house()
        for number in (0, 1):
            self.assert_refused(Unknown, house, "ground_of", number)
        house.come(3, DB, 1)
        for number in (0, 2, 10**9):
            self.assert_refused(Unknown, house, "ground_of", number)
        house.go(4, 1)
        self.assert_refused(Unknown, house, "ground_of", 1)


class OwnTest(HouseTest):
    def test_what_was_handed_in_stays_and_may_be_changed(self):
        rotas, rules = copy.deepcopy(ROTAS), copy.deepcopy(RULES)
        house, other = House(TREE, rotas, rules, "head"), new_house()
        for one in (house, other):
            one.come(0, OLD, 3)
            one.come(0, DB, 1)
            one.until(3)
        self.assertEqual((rotas, rules), (ROTAS, RULES))
        rotas.clear()
        rules.append(((), (), ()))
        for one in (house, other):
            one.come(3, (("env", "live"), ("zone", "n")), 5)
            one.swap(4, "day", "ann", "bob", 4, 9)
            one.until(30)
        self.assertEqual(seen(house), seen(other))
        self.assertEqual(house.on_duty("day", 5), "bob")

    def test_what_is_told_may_be_changed(self):
        house, other = new_house(), new_house()
        for turn in range(0, 30, 2):
            for one in (house, other):
                one.come(turn, (("env", "old"), ("zone", "z" + str(turn))), 3)
                one.quiet(turn, LIVE, turn + 3, turn + 5)
                one.away(turn, "ann", turn, turn + 1)
                one.swap(turn, "day", "ann", "bob", turn, turn + 1)
            for told in (house.records, house.log, house.open_groups, house.states):
                spoil(told())
            self.assertEqual(seen(house), seen(other))

    def test_what_was_told_stays(self):
        house = new_house()
        house.come(0, OLD, 3)
        house.until(4)
        told = (house.now(), house.records(), house.log(), house.open_groups(), house.states())
        kept = copy.deepcopy(told)
        house.come(5, OLD + (("zone", "n"),), 3)
        house.answer(6, *OWN)
        house.go(9, 1)
        house.quiet(9, (), 10, 12)
        house.until(40)
        self.assertEqual(told, kept)

    def test_two_houses_keep_nothing_together(self):
        house, other = new_house(), new_house()
        house.come(0, OLD, 3)
        house.quiet(0, (), 4, 5)
        house.until(9)
        self.assertEqual(seen(other), seen(new_house()))


class MadeTest(HouseTest):
    def test_deeds_by_the_words(self):
        """Many deeds, each looked at by the words of 25 to 29, and what is told by those of 30."""
        chance = random.Random("houses")
        found = {}
        for parts in houses("houses", 50):
            house = House(*parts)
            marks = chance.sample(all_marks(), 12)
            log = []
            for _ in range(60):
                name, handed = deed(chance, parts, house, marks)
                ahead = seen(house)
                kind = refusal_by_the_words(parts, house, name, handed)
                found[(name, kind)] = found.get((name, kind), 0) + 1
                with self.subTest(parts=parts, ahead=ahead, name=name, handed=handed):
                    if kind is not None:
                        self.assert_refused(kind, house, name, *handed)
                        continue
                    getattr(house, name)(*handed)
                    self.check_told(parts, house, ahead, log, handed[0])
        self.assertEqual(len(found), 26)
        self.assertGreater(min(found.values()), 4, found)

    def check_told(self, parts, house, ahead, log, turn):
        tree, rotas, rules, _ = parts
        states, entries = closings_by_the_words(parts, ahead[1], ahead[4], ahead[0], turn)
        log.extend(entries)
        records = house.records()
        self.assertEqual((house.now(), house.states(), house.log()), (turn, states, log))
        self.assertEqual(house.open_groups(), members_by_the_words(tree, records[0], records[1], rules, turn))
        for name, _ in rotas:
            for at in (0, turn, turn + 3):
                self.assertEqual(house.on_duty(name, at), on_by_the_words(rotas, records[2], records[3], name, at))


if __name__ == "__main__":
    unittest.main()
