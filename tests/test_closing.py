"""Points 22 and 23: closing a turn."""

import copy
import random
import unittest

from belfry.closing import closed
from belfry.trees import places
from made import closed_by_the_words, near_trees, row

# The tree's own row has two rotas in its chain, (0,) none, (1,) one, (1, 0) four; (2,) waits longer than its again.
TREE = row(
    by=("a",),
    wait=3,
    again=10,
    chain=("day", "night"),
    rows=(
        row(wait=2, again=5),
        row(wait=4, again=4, chain=("day",), rows=(row(wait=1, again=2, chain=("day", "day", "night", "day")),)),
        row(wait=10, again=3, chain=("night",)),
    ),
)


def state(named, step, due, last, place=(), key=("x",)):
    return (place, key, named, step, due, last)


def group(*numbers, place=(), key=("x",)):
    return (place, key, list(numbers))


def call(step, *numbers, place=(), key=("x",)):
    return (place, key, step, list(numbers))


class ClosingTest(unittest.TestCase):
    def assert_closed(self, states, there, answered, turn, following, calls=()):
        with self.subTest(states=states, there=there, answered=answered, turn=turn):
            found = closed(TREE, states, there, answered, turn)
            self.assertEqual(found, (following, list(calls)))
            self.assertEqual([type(part) for part in found], [list, list])


class BeginTest(ClosingTest):
    def test_nothing(self):
        self.assert_closed([], [], [], 0, [])
        self.assert_closed([], [], [((), ("x",))], 5, [])

    def test_a_group_without_a_state(self):
        self.assert_closed([], [group(1)], [], 0, [state([], 0, 3, None)])
        self.assert_closed([], [group(4, 7)], [], 5, [state([], 0, 8, None)])
        self.assert_closed([], [group(1)], [], 10**12, [state([], 0, 10**12 + 3, None)])

    def test_by_the_wait_of_its_row(self):
        for place, wait in (((), 3), ((0,), 2), ((1,), 4), ((1, 0), 1), ((2,), 10)):
            self.assert_closed([], [group(1, place=place)], [], 6, [state([], 0, 6 + wait, None, place)])

    def test_another_key_or_place_is_another_group(self):
        states = [state([1], 1, 30, 20)]
        self.assert_closed(states, [group(1, key=("y",))], [], 21, [state([], 0, 24, None, key=("y",))])
        self.assert_closed(states, [group(1, place=(0,))], [], 21, [state([], 0, 23, None, (0,))])

    def test_any_keys(self):
        for key in ((), ("",), ("", ""), ("a", "b", "c", "d", "e")):
            self.assert_closed([], [group(1, key=key)], [], 5, [state([], 0, 8, None, key=key)])


class KeepTest(ClosingTest):
    def test_all_stay(self):
        self.assert_closed([state([1, 2], 1, 30, 20)], [group(1, 2)], [], 21, [state([1, 2], 1, 30, 20)])
        self.assert_closed([state([1, 2], 0, None, 20)], [group(1, 2)], [], 21, [state([1, 2], 0, None, 20)])
        self.assert_closed([state([], 0, 30, None)], [group(1, 2)], [], 21, [state([], 0, 30, None)])

    def test_some_go(self):
        self.assert_closed([state([1, 2, 5], 1, 30, 20)], [group(1, 5)], [], 21, [state([1, 5], 1, 30, 20)])
        self.assert_closed([state([1, 2, 5], 0, None, 20)], [group(2)], [], 21, [state([2], 0, None, 20)])

    def test_all_named_go_and_another_comes(self):
        self.assert_closed([state([1, 2], 2, 30, 20)], [group(3)], [], 21, [state([], 2, 30, 20)])

    def test_without_members_it_loses_its_state(self):
        self.assert_closed([state([1], 1, 30, 20)], [], [], 21, [])
        self.assert_closed([state([1], 1, 30, 20)], [], [((), ("x",))], 30, [])
        self.assert_closed([state([], 0, 21, None)], [group(1, key=("y",))], [], 21, [state([], 0, 24, None, key=("y",))])

    def test_what_lost_its_state_begins_anew(self):
        following = closed(TREE, [state([1], 1, 30, 20)], [], [], 21)[0]
        self.assert_closed(following, [group(1)], [], 22, [state([], 0, 25, None)])

    def test_by_its_own_tuple_alone(self):
        """A number that is now a member of another group stays named in none but that which has it."""
        x, y = state([1, 2], 1, 40, 30), state([3], 1, 40, 30, key=("y",))
        self.assert_closed(
            [x, y],
            [group(2, 3), group(1, 3, key=("y",))],
            [],
            31,
            [state([2], 1, 40, 30), state([3], 1, 40, 30, key=("y",))],
        )
        self.assert_closed([x, y], [group(3), group(1, 2, key=("y",))], [], 31, [state([], 1, 40, 30), state([], 1, 40, 30, key=("y",))])


class AnsweredTest(ClosingTest):
    ANSWERED = [((), ("x",))]

    def test_without_a_last_nothing_comes_of_it(self):
        self.assert_closed([state([], 0, 30, None)], [group(1)], self.ANSWERED, 29, [state([], 0, 30, None)])
        self.assert_closed([state([], 0, 30, None)], [group(1)], self.ANSWERED, 30, [state([1], 1, 40, 30)], [call(0, 1)])
        self.assert_closed([], [group(1)], self.ANSWERED, 5, [state([], 0, 8, None)])

    def test_all_in_named(self):
        self.assert_closed([state([1, 2], 1, 30, 20)], [group(1, 2)], self.ANSWERED, 25, [state([1, 2], 0, None, 20)])
        self.assert_closed([state([1, 2], 2, 30, 20)], [group(2)], self.ANSWERED, 25, [state([2], 0, None, 20)])
        self.assert_closed([state([1, 2], 0, None, 20)], [group(1, 2)], self.ANSWERED, 25, [state([1, 2], 0, None, 20)])

    def test_ahead_of_the_call(self):
        self.assert_closed([state([1], 1, 30, 20)], [group(1)], self.ANSWERED, 30, [state([1], 0, None, 20)])
        self.assert_closed([state([1], 1, 30, 20)], [group(1)], self.ANSWERED, 35, [state([1], 0, None, 20)])

    def test_some_not_in_named(self):
        self.assert_closed([state([1], 2, 30, 20)], [group(1, 2)], self.ANSWERED, 25, [state([1], 0, 30, 20)])
        self.assert_closed([state([1], 2, 30, 20)], [group(2)], self.ANSWERED, 29, [state([], 0, 30, 20)])
        self.assert_closed([state([1], 2, 30, 20)], [group(1, 2)], self.ANSWERED, 30, [state([1, 2], 1, 40, 30)], [call(0, 1, 2)])

    def test_named_is_narrowed_ahead_of_it(self):
        self.assert_closed([state([1, 2, 3], 2, 30, 20)], [group(2, 3)], self.ANSWERED, 25, [state([2, 3], 0, None, 20)])

    def test_some_not_in_named_and_no_due(self):
        self.assert_closed([state([1], 0, None, 20)], [group(1, 2)], self.ANSWERED, 25, [state([1], 0, 30, 20)])

    def test_others_are_not_touched(self):
        states = [state([1], 1, 30, 20), state([1], 1, 30, 20, key=("y",)), state([1], 1, 30, 25, (0,))]
        there = [group(1), group(1, key=("y",)), group(1, place=(0,))]
        for k, answer in enumerate((((), ("x",)), ((), ("y",)), ((0,), ("x",)))):
            following = list(states)
            following[k] = states[k][:3] + (0, None, states[k][5])
            self.assert_closed(states, there, [answer], 26, following)
        self.assert_closed(states, there, [((0,), ("y",)), ((1,), ("x",)), ((), ())], 26, states)

    def test_without_state_or_members_it_is_not_looked_at(self):
        states, there = [state([1], 1, 30, 20)], [group(1)]
        for answer in (((), ("z",)), ((2,), ()), ((9, 9), ("x",)), ((1,), ("x",))):
            self.assert_closed(states, there, [answer], 25, states)
            self.assert_closed(states + [state([3], 1, 40, 24, (1,))], there, [answer], 25, states)
        self.assert_closed([], [], [((9,), ())], 25, [])

    def test_told_twice(self):
        for k in (2, 3):
            self.assert_closed([state([1], 1, 30, 20)], [group(1)], self.ANSWERED * k, 25, [state([1], 0, None, 20)])
            self.assert_closed([state([1], 1, 30, 20)], [group(1, 2)], self.ANSWERED * k, 25, [state([1], 0, 30, 20)])


class NewMemberTest(ClosingTest):
    def test_while_due_is_a_turn(self):
        self.assert_closed([state([1], 1, 30, 20)], [group(1, 2)], [], 25, [state([1], 1, 30, 20)])
        self.assert_closed([state([], 0, 30, None)], [group(1, 2)], [], 28, [state([], 0, 30, None)])

    def test_while_due_is_none(self):
        # wait 3, again 10, the last call at 20: from 27 on the wait is the later one.
        for turn, due in ((21, 30), (26, 30), (27, 30), (28, 31), (29, 32), (10**9, 10**9 + 3)):
            self.assert_closed([state([1], 0, None, 20)], [group(1, 2)], [], turn, [state([1], 0, due, 20)])
            self.assert_closed([state([1], 0, None, 20)], [group(2)], [], turn, [state([], 0, due, 20)])

    def test_where_the_wait_is_longer_than_again(self):
        for turn in (21, 22, 23, 24):
            self.assert_closed(
                [state([1], 0, None, 20, (2,))], [group(1, 2, place=(2,))], [], turn, [state([1], 0, turn + 10, 20, (2,))]
            )

    def test_a_number_that_comes_back_is_new(self):
        following = closed(TREE, [state([1, 2], 0, None, 20)], [group(1)], [], 25)[0]
        self.assertEqual(following, [state([1], 0, None, 20)])
        self.assert_closed(following, [group(1, 2)], [], 26, [state([1], 0, 30, 20)])

    def test_below_all_named(self):
        self.assert_closed([state([5], 0, None, 20)], [group(1, 5)], [], 25, [state([5], 0, 30, 20)])


class CallTest(ClosingTest):
    def test_ahead_of_at_and_behind_due(self):
        self.assert_closed([state([1], 1, 30, 20)], [group(1)], [], 29, [state([1], 1, 30, 20)])
        self.assert_closed([state([1], 1, 30, 20)], [group(1)], [], 30, [state([1], 2, 40, 30)], [call(1, 1)])
        self.assert_closed([state([1], 1, 30, 20)], [group(1)], [], 37, [state([1], 2, 47, 37)], [call(1, 1)])

    def test_each_step_of_the_chain(self):
        self.assert_closed([state([], 0, 30, None)], [group(1)], [], 30, [state([1], 1, 40, 30)], [call(0, 1)])
        self.assert_closed([state([1], 1, 40, 30)], [group(1)], [], 40, [state([1], 2, 50, 40)], [call(1, 1)])
        self.assert_closed([state([1], 2, 50, 40)], [group(1)], [], 50, [state([1], 0, None, 50)], [call(2, 1)])

    def test_an_empty_chain(self):
        self.assert_closed(
            [state([], 0, 7, None, (0,))], [group(1, place=(0,))], [], 7, [state([1], 0, None, 7, (0,))], [call(0, 1, place=(0,))]
        )

    def test_a_chain_of_four(self):
        for step in range(5):
            following = state([1], step + 1, 32, 30, (1, 0)) if step < 4 else state([1], 0, None, 30, (1, 0))
            self.assert_closed(
                [state([1], step, 30, 28, (1, 0))], [group(1, place=(1, 0))], [], 30, [following], [call(step, 1, place=(1, 0))]
            )

    def test_all_members_are_named(self):
        self.assert_closed([state([2, 9], 1, 30, 20)], [group(1, 2, 7)], [], 30, [state([1, 2, 7], 2, 40, 30)], [call(1, 1, 2, 7)])

    def test_a_new_member_at_the_last_step_is_named_in_it(self):
        self.assert_closed([state([1], 2, 30, 20)], [group(1, 2)], [], 30, [state([1, 2], 0, None, 30)], [call(2, 1, 2)])

    def test_a_group_that_has_just_its_state_waits_for_one_turn_at_least(self):
        self.assert_closed([], [group(1, place=(1, 0))], [], 30, [state([], 0, 31, None, (1, 0))])


class SeveralGroupsTest(ClosingTest):
    def test_order_of_states_and_calls(self):
        keys = [((), ("",)), ((), ("a",)), ((), ("b",)), ((0,), ()), ((1,), ()), ((1, 0), ()), ((2,), ())]
        states = [state([], 0, 30, None, place, key) for place, key in keys]
        there = [group(k + 1, place=place, key=key) for k, (place, key) in enumerate(keys)]
        following, calls = closed(TREE, states, there, [], 30)
        self.assertEqual([one[:2] for one in following], keys)
        self.assertEqual([one[:2] for one in calls], keys)
        self.assertEqual([one[3] for one in calls], [[k + 1] for k in range(len(keys))])

    def test_some_begin_some_go_some_are_called(self):
        self.assert_closed(
            [state([1], 1, 30, 20, key=("b",)), state([2], 1, 30, 26, (1,), ()), state([3], 0, None, 9, (2,), ())],
            [group(5, key=("a",)), group(1, key=("b",)), group(4, place=(0,), key=()), group(3, place=(2,), key=())],
            [],
            30,
            [
                state([], 0, 33, None, key=("a",)),
                state([1], 2, 40, 30, key=("b",)),
                state([], 0, 32, None, (0,), ()),
                state([3], 0, None, 9, (2,), ()),
            ],
            [call(1, 1, key=("b",))],
        )

    def test_one_number_in_several_groups(self):
        self.assert_closed(
            [state([], 0, 30, None), state([1], 1, 30, 26, (1,))],
            [group(1), group(1, 2, place=(1,)), group(1, place=(2,))],
            [((1,), ("x",))],
            30,
            [state([1], 1, 40, 30), state([1, 2], 1, 34, 30, (1,)), state([], 0, 40, None, (2,))],
            [call(0, 1), call(0, 1, 2, place=(1,))],
        )


class SequenceTest(unittest.TestCase):
    def calls_of(self, tree, told):
        """The calls of closings one behind the other, told being (there, answered) from turn 0 on."""
        states, found = [], []
        for turn, (there, answered) in enumerate(told):
            states, calls = closed(tree, states, there, answered, turn)
            found.extend((turn,) + one[2:] for one in calls)
        return found

    def test_up_the_chain_and_then_no_more(self):
        told = [([group(1)], [])] * 60
        self.assertEqual(self.calls_of(TREE, told), [(3, 0, [1]), (13, 1, [1]), (23, 2, [1])])

    def test_an_answer_ends_it(self):
        told = [([group(1)], [((), ("x",))] if turn == 13 else []) for turn in range(60)]
        self.assertEqual(self.calls_of(TREE, told), [(3, 0, [1])])
        told = [([group(1)], [((), ("x",))] if turn == 14 else []) for turn in range(60)]
        self.assertEqual(self.calls_of(TREE, told), [(3, 0, [1]), (13, 1, [1])])

    def test_an_answer_ahead_of_the_first_call_does_nothing(self):
        told = [([group(1)], [((), ("x",))] if turn < 4 else []) for turn in range(60)]
        self.assertEqual(self.calls_of(TREE, told), [(3, 0, [1]), (13, 1, [1]), (23, 2, [1])])

    def test_a_new_one_behind_an_answer(self):
        told = [([group(1) if turn < 8 else group(1, 2)], [((), ("x",))] if turn == 5 else []) for turn in range(60)]
        self.assertEqual(self.calls_of(TREE, told), [(3, 0, [1]), (13, 0, [1, 2]), (23, 1, [1, 2]), (33, 2, [1, 2])])
        told = [([group(1) if turn < 40 else group(2)], []) for turn in range(70)]
        self.assertEqual(self.calls_of(TREE, told)[3:], [(43, 0, [2]), (53, 1, [2]), (63, 2, [2])])

    def test_a_gap_begins_anew(self):
        told = [([] if turn == 8 else [group(1)], []) for turn in range(60)]
        self.assertEqual(self.calls_of(TREE, told), [(3, 0, [1]), (12, 0, [1]), (22, 1, [1]), (32, 2, [1])])

    def test_gone_ahead_of_its_first_call(self):
        told = [([group(1)] if turn % 3 < 2 else [], []) for turn in range(60)]
        self.assertEqual(self.calls_of(TREE, told), [])

    def made(self, chance, groups):
        there = [one + (sorted(chance.sample(range(1, 8), chance.randint(1, 3))),) for one in groups if chance.random() < 0.9]
        answered = [one for one in groups + [((9,), ()), ((), ("?",))] if chance.random() < 0.1]
        return there, answered + answered[:1]

    def test_made(self):
        chance = random.Random("closing")
        called = 0
        for tree in near_trees("closing", 40):
            some = chance.sample(places(tree), min(4, len(places(tree))))
            groups = sorted({(place, (chance.choice(("", "a", "b")),)) for place in some * 2})
            states, turn, there = [], 0, []
            for _ in range(120):
                answered = []
                if chance.random() < 0.15:
                    there, answered = self.made(chance, groups)
                handed = copy.deepcopy((tree, states, there, answered, turn))
                told = closed(tree, states, there, answered, turn)
                with self.subTest(handed=handed):
                    self.assertEqual((tree, states, there, answered, turn), handed)
                    self.assertEqual(told, closed_by_the_words(*handed))
                states = told[0]
                called += len(told[1])
                turn += chance.choice((1, 1, 1, 1, 2, 5))
        self.assertGreater(called, 800)


class OwnTest(unittest.TestCase):
    STATES = [state([1, 2], 1, 30, 20), state([1], 0, None, 20, key=("y",)), state([], 0, 25, None, (0,))]
    THERE = [group(1, 2, 3), group(1, key=("y",)), group(4, place=(0,)), group(5, place=(1,))]
    ANSWERED = [((), ("x",)), ((), ("y",))]

    def test_nothing_handed_in_is_changed(self):
        for turn in (24, 25, 30, 31):
            handed = (TREE, copy.deepcopy(self.STATES), copy.deepcopy(self.THERE), list(self.ANSWERED), turn)
            closed(*handed)
            self.assertEqual(handed, (TREE, self.STATES, self.THERE, self.ANSWERED, turn))

    def test_what_is_told_shares_no_list_with_what_was_handed_in(self):
        for turn in (24, 25, 30, 31):
            handed = (TREE, copy.deepcopy(self.STATES), copy.deepcopy(self.THERE), list(self.ANSWERED), turn)
            following, calls = closed(*handed)
            for one in following:
                one[2].append(77)
            for one in calls:
                one[3].append(88)
            following.clear()
            calls.clear()
            self.assertEqual(handed, (TREE, self.STATES, self.THERE, self.ANSWERED, turn))

    def test_what_is_done_to_what_was_handed_in_does_not_reach_what_is_told(self):
        handed = (TREE, copy.deepcopy(self.STATES), copy.deepcopy(self.THERE), list(self.ANSWERED), 30)
        told = closed(*handed)
        kept = copy.deepcopy(told)
        for one in handed[1] + handed[2]:
            one[2].clear()
        handed[3].clear()
        self.assertEqual(told, kept)

    def test_a_call_and_its_state_have_two_lists(self):
        following, calls = closed(TREE, [state([], 0, 30, None)], [group(1)], [], 30)
        calls[0][3].append(9)
        self.assertEqual(following, [state([1], 1, 40, 30)])
        following[0][2].clear()
        self.assertEqual(calls, [call(0, 1, 9)])


if __name__ == "__main__":
    unittest.main()
