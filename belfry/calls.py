"""The hand of a call: the one that is on by a rota of the chain, or the top."""

from belfry.rotas import hand_on


def rota_named(rotas, name):
    for pair in rotas:
        if pair[0] == name:
            return pair[1]
    return None


# Of the swaps, tuples (rota's name, one, other, first, last), only those of this rota are looked at.
def hand_by(name, turn, rotas, swaps, absences):
    own_swaps = [swap[1:] for swap in swaps if swap[0] == name]
    return hand_on(rota_named(rotas, name), own_swaps, absences, turn)


def hand_of(row, step, turn, rotas, swaps, absences, top):
    chain = row[5]
    if step >= len(chain):
        return top
    hand = hand_by(chain[step], turn, rotas, swaps, absences)
    return top if hand is None else hand
