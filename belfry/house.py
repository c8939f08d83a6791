"""The house: its deeds, the records of them, and the log of its calls."""

from belfry.calls import hand_by, rota_named
from belfry.errors import Late, NoStretch, Twice, Unknown
from belfry.members import members
from belfry.quieting import ground, stands
from belfry.reckoning import reckoned


def refuse_late(turn, now):
    if turn < now:
        raise Late("the turn lies ahead of the one at which the house stands")


def refuse_stretch(turn, first, last):
    if first >= last:
        raise NoStretch("the first turn is not below the last")
    if first < turn:
        raise Late("the first turn lies ahead of the deed's")


# Numbers are given from 1 on in the order of noting, so a number tells where its record lies.
def numbered(noted, number):
    return noted[number - 1] if 1 <= number <= len(noted) else None


def standing_saying(sayings, number, turn):
    saying = numbered(sayings, number)
    if saying is None or not stands(saying, turn):
        raise Unknown("no saying of this number stands there")
    return saying


def was_called(states, group):
    return any([state[:2] == group and state[5] is not None for state in states])


class House:
    def __init__(self, tree, rotas, rules, top):
        self.tree = tree
        self.rotas = list(rotas)
        self.rules = list(rules)
        self.top = top
        self.turn = 0
        self.sayings = []
        self.quietings = []
        self.swaps = []
        self.absences = []
        self.answers = []
        self.entries = []
        self.last_states = []

    def come(self, turn, marks, weight):
        refuse_late(turn, self.turn)
        if any([saying[1] == marks and stands(saying, turn) for saying in self.sayings]):
            raise Twice("a saying with just these marks stands there")
        self.go_on(turn, self.reckoned_to(turn))
        number = len(self.sayings) + 1
        self.sayings.append((number, marks, weight, turn, None))
        return number

    def go(self, turn, number):
        refuse_late(turn, self.turn)
        saying = standing_saying(self.sayings, number, turn)
        self.go_on(turn, self.reckoned_to(turn))
        self.sayings[number - 1] = saying[:4] + (turn,)

    def quiet(self, turn, askings, first, last):
        refuse_late(turn, self.turn)
        refuse_stretch(turn, first, last)
        self.go_on(turn, self.reckoned_to(turn))
        number = len(self.quietings) + 1
        self.quietings.append((number, askings, first, last))
        return number

    def lift(self, turn, number):
        refuse_late(turn, self.turn)
        quieting = numbered(self.quietings, number)
        if quieting is None or quieting[3] <= max(turn, quieting[2]):
            raise Unknown("no quieting of this number is in force there or later")
        self.go_on(turn, self.reckoned_to(turn))
        self.quietings[number - 1] = quieting[:3] + (max(turn, quieting[2]),)

    def swap(self, turn, rota, one, other, first, last):
        refuse_late(turn, self.turn)
        found = self.known_rota(rota)
        if one not in found[0] or other not in found[0]:
            raise Unknown("a hand is none of the rota")
        if one == other:
            raise Twice("a hand does not swap with itself")
        refuse_stretch(turn, first, last)
        self.go_on(turn, self.reckoned_to(turn))
        self.swaps.append((rota, one, other, first, last))

    def away(self, turn, hand, first, last):
        refuse_late(turn, self.turn)
        if not any([hand in pair[1][0] for pair in self.rotas]):
            raise Unknown("the hand stands in no rota")
        refuse_stretch(turn, first, last)
        self.go_on(turn, self.reckoned_to(turn))
        self.absences.append((hand, first, last))

    def answer(self, turn, place, key):
        refuse_late(turn, self.turn)
        found = self.reckoned_to(turn)
        if not was_called(found[0], (place, key)):
            raise Unknown("the group was not called")
        self.go_on(turn, found)
        self.answers.append((turn, place, key))

    def until(self, turn):
        refuse_late(turn, self.turn)
        self.go_on(turn, self.reckoned_to(turn))

    def now(self):
        return self.turn

    def records(self):
        return (list(self.sayings), list(self.quietings), list(self.swaps), list(self.absences), list(self.answers))

    def log(self):
        return [entry[:5] + (list(entry[5]),) for entry in self.entries]

    def open_groups(self):
        return members(self.tree, self.sayings, self.quietings, self.rules, self.turn)

    def states(self):
        return [state[:2] + (list(state[2]),) + state[3:] for state in self.last_states]

    def ground_of(self, number):
        saying = standing_saying(self.sayings, number, self.turn)
        return ground(saying, self.sayings, self.quietings, self.rules, self.turn)

    def on_duty(self, rota, turn):
        # Asked for its refusal alone.
        self.known_rota(rota)
        return hand_by(rota, turn, self.rotas, self.swaps, self.absences)

    def known_rota(self, name):
        found = rota_named(self.rotas, name)
        if found is None:
            raise Unknown("there is no rota of this name")
        return found

    # Told, not kept: a deed may still be refused by what is found here.
    def reckoned_to(self, turn):
        records = self.records()
        return reckoned(self.tree, self.rotas, self.rules, self.top, records, self.last_states, self.turn, turn)

    def go_on(self, turn, found):
        self.last_states = found[0]
        self.entries.extend(found[1])
        self.turn = turn
