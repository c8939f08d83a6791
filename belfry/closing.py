"""Closing a turn: from the states of groups, tuples (place, key, named, step, due, last), to the next ones."""

from belfry.trees import row_at


def all_named(state, numbers):
    return all([number in state[2] for number in numbers])


def begun(state, group, row, turn):
    if state is None:
        return group[:2] + ([], 0, turn + row[3], None)
    return state[:2] + ([number for number in state[2] if number in group[2]],) + state[3:]


def behind_answer(state, numbers):
    if state[5] is None:
        return state
    due = None if all_named(state, numbers) else state[4]
    return state[:3] + (0, due, state[5])


def behind_new_members(state, numbers, row, turn):
    if state[4] is not None or all_named(state, numbers):
        return state
    return state[:3] + (0, max(turn + row[3], state[5] + row[4]), state[5])


def is_due(state, turn):
    return state[4] is not None and state[4] <= turn


def behind_call(state, numbers, row, turn):
    if state[3] < len(row[5]):
        return state[:2] + (list(numbers), state[3] + 1, turn + row[4], turn)
    return state[:2] + (list(numbers), 0, None, turn)


def ahead_of_call(state, group, row, was_answered, turn):
    found = begun(state, group, row, turn)
    if was_answered:
        found = behind_answer(found, group[2])
    return behind_new_members(found, group[2], row, turn)


def closed(tree, states, there, answered, turn):
    states_of = {}
    for state in states:
        states_of[state[:2]] = state
    following = []
    calls = []
    for group in [one for one in there if one[2]]:
        row = row_at(tree, group[0])
        state = ahead_of_call(states_of.get(group[:2]), group, row, group[:2] in answered, turn)
        if is_due(state, turn):
            # The call has its own list, so that nothing done to it reaches the state.
            calls.append(group[:2] + (state[3], list(group[2])))
            state = behind_call(state, group[2], row, turn)
        following.append(state)
    return (following, calls)
