"""The desk: a house whose deeds and askings are told by lines, and its answers by texts."""

from belfry.cases import shown
from belfry.house import House
from belfry.lines import read_line, shown_key, shown_place
from belfry.wordings import shown_marks

DEEDS = ("come", "quiet", "go", "lift", "swap", "away", "answer", "until")


def shown_numbers(numbers):
    return ",".join([str(number) for number in numbers])


def shown_group(group):
    return " ".join([shown_place(group[0]), shown_key(group[1]), shown_numbers(group[2])])


def shown_entry(entry):
    words = [str(entry[0]), shown_place(entry[1]), shown_key(entry[2]), str(entry[3]), entry[4]]
    return " ".join(words + [shown_numbers(entry[5])])


def shown_all(texts):
    return "; ".join(texts) if texts else "none"


def shown_ground(found):
    return "none" if found is None else " ".join([str(part) for part in found])


def shown_row(tree, place):
    found = shown(tree, place)
    return shown_marks(found[1]) if found[0] == "marks" else "never"


def done(house, word, parts):
    if word == "come":
        return str(house.come(parts[0], parts[2], parts[1]))
    if word == "quiet":
        return str(house.quiet(parts[0], parts[3], parts[1], parts[2]))
    if word == "go":
        house.go(parts[0], parts[1])
    elif word == "lift":
        house.lift(parts[0], parts[1])
    elif word == "swap":
        house.swap(parts[0], parts[1], parts[2], parts[3], parts[4], parts[5])
    elif word == "away":
        house.away(parts[0], parts[1], parts[2], parts[3])
    elif word == "answer":
        house.answer(parts[0], parts[1], parts[2])
    else:
        house.until(parts[0])
    return "ok"


def asked(house, tree, word, parts):
    if word == "open":
        return shown_all([shown_group(group) for group in house.open_groups()])
    if word == "log":
        return shown_all([shown_entry(entry) for entry in house.log()])
    if word == "ground":
        return shown_ground(house.ground_of(parts[0]))
    if word == "on":
        hand = house.on_duty(parts[0], parts[1])
        return "nobody" if hand is None else hand
    return shown_row(tree, parts[0])


class Desk:
    def __init__(self, tree, rotas, rules, top):
        self.tree = tree
        self.house = House(tree, rotas, rules, top)

    def say(self, line):
        read = read_line(line)
        if read[0] in DEEDS:
            return done(self.house, read[0], read[1])
        return asked(self.house, self.tree, read[0], read[1])
