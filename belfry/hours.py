"""The hours of a rota: the stretches of turns in which one hand is on."""

from belfry.rotas import hand_on


# The turns at which another hand may come on, and the two ends. Between two
# of them nothing changes, however far apart they lie.
def edges(rota, swaps, absences, first, last):
    begin = first - (first - rota[1]) % rota[2]
    turns = list(range(begin, last, rota[2]))
    for swap in swaps:
        turns.extend(swap[2:])
    for absence in absences:
        turns.extend(absence[1:])
    return [first] + sorted(set([turn for turn in turns if first < turn < last])) + [last]


def hours(rota, swaps, absences, first, last):
    turns = edges(rota, swaps, absences, first, last)
    found = []
    for begin, end in zip(turns, turns[1:]):
        hand = hand_on(rota, swaps, absences, begin)
        if found and found[-1][2] == hand:
            found[-1] = (found[-1][0], end, hand)
        else:
            found.append((begin, end, hand))
    return found
