"""What the tests hand in, made by chance from a told seed, and some points once more, by their words."""

import random
from itertools import product

from belfry.errors import HouseError, Late, NoStretch, Twice, Unknown
from belfry.house import House
from belfry.quieting import ground, stands
from belfry.rotas import hand_on
from belfry.trees import groups_of, row_at

VALUES_OF = {"env": ("live", "old"), "host": ("a1", "b2", "c3"), "rack": (), "zone": ("n",)}
ROTA_NAMES = ("one", "two", "night")


def row(askings=(), on=False, by=(), wait=1, again=1, chain=(), rows=()):
    return (askings, on, by, wait, again, chain, tuple(rows))


def asking(chance):
    name = chance.choice(sorted(VALUES_OF))
    values = list(VALUES_OF[name])
    word = chance.choice(("is", "no", "there", "lacks") if values else ("there", "lacks"))
    if word in ("there", "lacks"):
        return (word, name, ())
    chance.shuffle(values)
    return (word, name, tuple(values[: chance.randint(1, len(values))]))


def askings(chance):
    return tuple(asking(chance) for _ in range(chance.choice((0, 1, 1, 1, 2, 2, 3, 4))))


def rows_below(chance, depth, room):
    """Rows that lie depth below the tree's own, at most room[0] of them and those below them."""
    rows = []
    for _ in range(chance.randint(0, 5) if depth <= 4 else 0):
        if room[0] == 0:
            break
        room[0] -= 1
        rows.append(some_row(chance, depth, room))
    return rows


def some_row(chance, depth, room):
    names = sorted(VALUES_OF) + ["level"]
    chance.shuffle(names)
    return row(
        askings(chance),
        chance.random() < 0.5,
        tuple(names[: chance.randint(0, 4)]),
        chance.choice((1, 2, 9, 10, 999999999, 10**9)),
        chance.choice((1, 3, 12, 10**9)),
        tuple(chance.choice(ROTA_NAMES) for _ in range(chance.randint(0, 4))),
        rows_below(chance, depth + 1, room),
    )


def trees(seed, number):
    """Some trees within the bounds of point 8."""
    chance = random.Random(seed)
    return [some_row(chance, 0, [chance.randint(0, 19)]) for _ in range(number)]


def all_marks():
    """Marks with each value of each name of these trees, with another one, and without one."""
    names = sorted(VALUES_OF)
    told = [VALUES_OF[name] + ("other", None) for name in names]
    return [
        tuple((name, value) for name, value in zip(names, values) if value is not None)
        for values in product(*told)
    ]


def rota(chance):
    """A rota whose turns within the first forty or so matter."""
    hands = ["ann", "bob", "cyd", "dan", "eve", "flo", "gus", "hal"]
    chance.shuffle(hands)
    return (tuple(hands[: chance.randint(1, 8)]), chance.randint(0, 50), chance.choice((1, 2, 3, 7, 20)))


def stretch(chance):
    first = chance.randint(0, 30)
    return (first, first + chance.randint(1, 20))


def swaps(chance, hands):
    number = chance.randint(0, 6) if len(hands) > 1 else 0
    return [tuple(chance.sample(hands, 2)) + stretch(chance) for _ in range(number)]


def absences(chance, hands):
    """Mostly of hands of the rota, so that now and then all are away."""
    number = chance.randint(0, 3 * len(hands))
    return [(chance.choice(hands + ("zoe",)),) + stretch(chance) for _ in range(number)]


def near(tree, chance):
    """The same tree, its waits and agains so small that turns can be looked at one by one."""
    askings, on, by, _, _, chain, rows = tree
    return row(askings, on, by, chance.randint(1, 6), chance.randint(1, 6), chain, [near(below, chance) for below in rows])


def near_trees(seed, number):
    chance = random.Random(seed)
    return [near(tree, chance) for tree in trees(seed, number)]


def sayings(chance, number, marks, turns):
    """Sayings that come and go within these turns, in any order of their numbers."""
    made = []
    for k in chance.sample(range(1, 2 * number + 1), number):
        came = chance.randrange(turns)
        gone = chance.choice((None, came + chance.randrange(turns)))
        made.append((k, chance.choice(marks), chance.randint(0, 9), came, gone))
    return made


def quietings(chance, number, turns):
    made = []
    for k in chance.sample(range(1, 2 * number + 1), number):
        made.append((k, askings(chance), chance.randrange(turns), chance.randrange(turns)))
    return made


def rules(chance):
    number = chance.randint(0, 3)
    return [(askings(chance), askings(chance), tuple(chance.sample(sorted(VALUES_OF), chance.randint(0, 2)))) for _ in range(number)]


def members_by_the_words(tree, sayings, quietings, rules, turn):
    """Point 21 once more, group by group."""
    there = [saying for saying in sayings if stands(saying, turn) and ground(saying, sayings, quietings, rules, turn) is None]
    pairs = {(group, saying[0]) for saying in there for group in groups_of(tree, saying[1])}
    return [group + (sorted(number for other, number in pairs if other == group),) for group in sorted({group for group, _ in pairs})]


def closed_by_the_words(tree, states, there, answered, turn):
    """Point 23 once more, step by step."""
    known = {(place, key): (named, step, due, last) for place, key, named, step, due, last in states}
    following, calls = [], []
    for place, key, numbers in there:
        _, _, _, wait, again, chain, _ = row_at(tree, place)
        named, step, due, last = known.get((place, key), ([], 0, turn + wait, None))
        named = sorted(set(named) & set(numbers))
        if (place, key) in answered and last is not None:
            step = 0
            if set(numbers) <= set(named):
                due = None
        if set(numbers) - set(named) and due is None:
            step = 0
            due = turn + wait if turn + wait > last + again else last + again
        if due is not None and due <= turn:
            calls.append((place, key, step, numbers[:]))
            named, last = numbers[:], turn
            step, due = (step + 1, turn + again) if step < len(chain) else (0, None)
        following.append((place, key, named, step, due, last))
    return following, calls


def closings_by_the_words(parts, records, states, first, last):
    """Points 24, 25 and 31 once more, turn by turn: the states behind the last closing, and the entries."""
    tree, rotas, greater, top = parts
    told, quieted, swapped, gone, answers = records
    entries = []
    for turn in range(first, last):
        there = members_by_the_words(tree, told, quieted, greater, turn)
        answered = [(place, key) for at, place, key in answers if at == turn]
        states, calls = closed_by_the_words(tree, states, there, answered, turn)
        for place, key, step, numbers in calls:
            chain = row_at(tree, place)[5] + (None,)
            hand = on_by_the_words(rotas, swapped, gone, chain[step], turn)
            entries.append((turn, place, key, step, top if hand is None else hand, numbers))
    return states, entries


def on_by_the_words(rotas, swapped, gone, name, turn):
    """The hand that is on by the rota of this name; None, too, of no name."""
    if name is None:
        return None
    return hand_on(dict(rotas)[name], [swap[1:] for swap in swapped if swap[0] == name], gone, turn)


# Names of rotas, of marks and of the top, too, so that nothing goes by a name alone.
HANDS = ("ann", "bob", "one", "night", "env", "top")


def house_parts(chance, tree):
    """What a house is made of: the tree, rotas with few hands, greater rules, the top."""
    rotas = [(name, (tuple(chance.sample(HANDS, chance.choice((1, 2, 2, 3)))), chance.randint(0, 9), chance.randint(1, 9))) for name in ROTA_NAMES]
    return tree, rotas, rules(chance), "top"


def houses(seed, number):
    chance = random.Random(seed)
    return [house_parts(chance, tree) for tree in near_trees(seed, number)]


def stretch_behind(chance, turn):
    """Mostly one that is not refused."""
    first = turn + chance.choice((-1, 0, 0, 1, 2, 3, 5, 8))
    return first, first + chance.choice((0, 1, 2, 4, 6, 9, 20))


def deed(chance, parts, house, marks):
    """A deed for this house, now and then one that is refused: the method's name, and what is handed in."""
    turn = house.now() + chance.choice((-1, 0, 0, 0, 0, 1, 1, 1, 2, 3, 5, 8))
    name = chance.choice(("come",) * 8 + ("go",) * 4 + ("answer",) * 5 + ("away", "swap") * 4 + ("quiet", "lift", "until") * 2)
    told, quieted = house.records()[:2]
    if name == "come":
        return name, (turn, chance.choice(marks), chance.randint(0, 9))
    if name in ("go", "lift"):
        return name, (turn, chance.randint(0, len(told if name == "go" else quieted) + 1))
    if name == "quiet":
        return name, (turn, askings(chance)) + stretch_behind(chance, turn)
    if name == "swap":
        rota_name = chance.choice(ROTA_NAMES * 3 + ("ann",))
        hands = dict(parts[1]).get(rota_name, [HANDS])[0] * 2 + (chance.choice(HANDS),)
        return name, (turn, rota_name, chance.choice(hands), chance.choice(hands)) + stretch_behind(chance, turn)
    if name == "away":
        return name, (turn, chance.choice(HANDS + ("zoe",))) + stretch_behind(chance, turn)
    if name == "answer":
        groups = [state[:2] for state in house.states()] + [((), ()), ((9,), ("",))]
        return name, (turn,) + chance.choice(groups)
    return name, (turn,)


def stretch_refusal(turn, first, last):
    if not first < last:
        return NoStretch
    return Late if first < turn else None


def refusal_by_the_words(parts, house, name, handed):
    """The refusal of a deed by points 25 to 29, or None."""
    turn = handed[0]
    told, quieted = house.records()[:2]
    hands_of = {rota_name: one[0] for rota_name, one in parts[1]}
    if turn < house.now():
        return Late
    if name == "come":
        return Twice if handed[1] in [saying[1] for saying in told if stands(saying, turn)] else None
    if name == "go":
        return None if handed[1] in [saying[0] for saying in told if stands(saying, turn)] else Unknown
    if name == "lift":
        return None if handed[1] in [number for number, _, first, last in quieted if last > turn and last > first] else Unknown
    if name == "swap" and (handed[1] not in hands_of or not {handed[2], handed[3]} <= set(hands_of[handed[1]])):
        return Unknown
    if name == "swap" and handed[2] == handed[3]:
        return Twice
    if name == "away" and handed[1] not in [hand for hands in hands_of.values() for hand in hands]:
        return Unknown
    if name == "answer":
        states = closings_by_the_words(parts, house.records(), house.states(), house.now(), turn)[0]
        return None if handed[1:] in [state[:2] for state in states if state[5] is not None] else Unknown
    return None if name == "until" else stretch_refusal(turn, handed[-2], handed[-1])


def lived_house(chance, parts, number):
    """A house of these parts, and this many deeds told to it, those that it refuses counted."""
    house = House(*parts)
    marks = chance.sample(all_marks(), 20)
    for _ in range(number):
        name, handed = deed(chance, parts, house, marks)
        try:
            getattr(house, name)(*handed)
        except HouseError:
            pass
    return house


def spoil(told):
    """All that an asker can do to what is told: the lists in it are emptied, whatever they lie in."""
    if isinstance(told, (list, tuple)):
        for part in told:
            spoil(part)
    if isinstance(told, list):
        told.clear()
