"""Rotas, tuples (hands, first, long), with swaps and absences, and the hand that is on."""


def turn_of(rota, turn):
    hands = rota[0]
    # Python's own division rounds down for turns ahead of first, too.
    return hands[((turn - rota[1]) // rota[2]) % len(hands)]


def swapped(hand, swaps, turn):
    found = hand
    for swap in swaps:
        if swap[2] <= turn < swap[3] and found in swap[:2]:
            found = swap[1] if found == swap[0] else swap[0]
    return found


def is_away(hand, absences, turn):
    return any([absence[0] == hand and absence[1] <= turn < absence[2] for absence in absences])


def hand_on(rota, swaps, absences, turn):
    hands = rota[0]
    at = hands.index(swapped(turn_of(rota, turn), swaps, turn))
    for hand in hands[at:] + hands[:at]:
        if not is_away(hand, absences, turn):
            return hand
    return None
