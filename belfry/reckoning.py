"""Closing turn behind turn by records, those at which nothing can change passed over."""

from belfry.calls import hand_of
from belfry.closing import closed, is_due
from belfry.members import members
from belfry.trees import row_at


def edges_within(records, first, last):
    turns = [answer[0] for answer in records[4]]
    for saying in records[0]:
        turns.extend(saying[3:])
    for quieting in records[1]:
        turns.extend(quieting[2:])
    return sorted(set([turn for turn in turns if turn is not None and first < turn < last]))


# Where the members stay, nobody answers and no group is due, closing leaves all states as they are.
def next_turn(turn, states, edges, last):
    coming = [edge for edge in edges if edge > turn]
    coming.extend([max(state[4], turn + 1) for state in states if state[4] is not None])
    return min(coming, default=last)


# Between edges the states lie beside the members, one by one, and closing changes those alone that are due.
def due_closed(tree, states, there, turn):
    following = list(states)
    calls = []
    for k, state in enumerate(states):
        if is_due(state, turn):
            told = closed(tree, [state], [there[k]], [], turn)
            following[k] = told[0][0]
            calls.extend(told[1])
    return (following, calls)


def all_closed(tree, records, states, there, turn):
    answered = [answer[1:] for answer in records[4] if answer[0] == turn]
    return closed(tree, states, there, answered, turn)


def entry_of(call, turn, tree, rotas, records, top):
    hand = hand_of(row_at(tree, call[0]), call[2], turn, rotas, records[2], records[3], top)
    return (turn,) + call[:3] + (hand, call[3])


# From the states behind the turn ahead of first to those behind the one ahead of last, and the entries between.
def reckoned(tree, rotas, rules, top, records, states, first, last):
    edges = edges_within(records, first, last)
    found = states
    entries = []
    there = []
    turn = first
    while turn < last:
        if turn == first or turn in edges:
            there = members(tree, records[0], records[1], rules, turn)
            told = all_closed(tree, records, found, there, turn)
        else:
            told = due_closed(tree, found, there, turn)
        found = told[0]
        entries.extend([entry_of(call, turn, tree, rotas, records, top) for call in told[1]])
        turn = next_turn(turn, found, edges, last)
    return (found, entries)
