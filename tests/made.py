"""What the tests hand in, made by chance from a told seed, and some points once more, by their words."""

import random
from itertools import product

from belfry.quieting import ground, stands
from belfry.trees import groups_of, row_at

VALUES_OF = {"env": ("live", "old"), "host": ("a1", "b2", "c3"), "rack": (), "zone": ("n",)}
ROTA_NAMES = ("one", "two", "night")


def row(askings=(), on=False, by=(), wait=1, again=1, chain=(), rows=()):
    return (askings, on, by, wait, again, chain, tuple(rows))


def asking(chance):
    name = chance.choice(sorted(VALUES_OF))
    values = list(VALUES_OF[name])
    word = chance.choice(("is", "no", "there", "lacks") if values else ("there", "lacks"))
    if word in ("there", "lacks"):
        return (word, name, ())
    chance.shuffle(values)
    return (word, name, tuple(values[: chance.randint(1, len(values))]))


def askings(chance):
    return tuple(asking(chance) for _ in range(chance.choice((0, 1, 1, 1, 2, 2, 3, 4))))


def rows_below(chance, depth, room):
    """Rows that lie depth below the tree's own, at most room[0] of them and those below them."""
    rows = []
    for _ in range(chance.randint(0, 5) if depth <= 4 else 0):
        if room[0] == 0:
            break
        room[0] -= 1
        rows.append(some_row(chance, depth, room))
    return rows


def some_row(chance, depth, room):
    names = sorted(VALUES_OF) + ["level"]
    chance.shuffle(names)
    return row(
        askings(chance),
        chance.random() < 0.5,
        tuple(names[: chance.randint(0, 4)]),
        chance.choice((1, 2, 9, 10, 999999999, 10**9)),
        chance.choice((1, 3, 12, 10**9)),
        tuple(chance.choice(ROTA_NAMES) for _ in range(chance.randint(0, 4))),
        rows_below(chance, depth + 1, room),
    )


def trees(seed, number):
    """Some trees within the bounds of point 8."""
    chance = random.Random(seed)
    return [some_row(chance, 0, [chance.randint(0, 19)]) for _ in range(number)]


def all_marks():
    """Marks with each value of each name of these trees, with another one, and without one."""
    names = sorted(VALUES_OF)
    told = [VALUES_OF[name] + ("other", None) for name in names]
    return [
        tuple((name, value) for name, value in zip(names, values) if value is not None)
        for values in product(*told)
    ]


def rota(chance):
    """A rota whose turns within the first forty or so matter."""
    hands = ["ann", "bob", "cyd", "dan", "eve", "flo", "gus", "hal"]
    chance.shuffle(hands)
    return (tuple(hands[: chance.randint(1, 8)]), chance.randint(0, 50), chance.choice((1, 2, 3, 7, 20)))


def stretch(chance):
    first = chance.randint(0, 30)
    return (first, first + chance.randint(1, 20))


def swaps(chance, hands):
    number = chance.randint(0, 6) if len(hands) > 1 else 0
    return [tuple(chance.sample(hands, 2)) + stretch(chance) for _ in range(number)]


def absences(chance, hands):
    """Mostly of hands of the rota, so that now and then all are away."""
    number = chance.randint(0, 3 * len(hands))
    return [(chance.choice(hands + ("zoe",)),) + stretch(chance) for _ in range(number)]


def near(tree, chance):
    """The same tree, its waits and agains so small that turns can be looked at one by one."""
    askings, on, by, _, _, chain, rows = tree
    return row(askings, on, by, chance.randint(1, 6), chance.randint(1, 6), chain, [near(below, chance) for below in rows])


def near_trees(seed, number):
    chance = random.Random(seed)
    return [near(tree, chance) for tree in trees(seed, number)]


def sayings(chance, number, marks, turns):
    """Sayings that come and go within these turns, in any order of their numbers."""
    made = []
    for k in chance.sample(range(1, 2 * number + 1), number):
        came = chance.randrange(turns)
        gone = chance.choice((None, came + chance.randrange(turns)))
        made.append((k, chance.choice(marks), chance.randint(0, 9), came, gone))
    return made


def quietings(chance, number, turns):
    made = []
    for k in chance.sample(range(1, 2 * number + 1), number):
        made.append((k, askings(chance), chance.randrange(turns), chance.randrange(turns)))
    return made


def rules(chance):
    number = chance.randint(0, 3)
    return [(askings(chance), askings(chance), tuple(chance.sample(sorted(VALUES_OF), chance.randint(0, 2)))) for _ in range(number)]


def members_by_the_words(tree, sayings, quietings, rules, turn):
    """Point 21 once more, group by group."""
    there = [saying for saying in sayings if stands(saying, turn) and ground(saying, sayings, quietings, rules, turn) is None]
    pairs = {(group, saying[0]) for saying in there for group in groups_of(tree, saying[1])}
    return [group + (sorted(number for other, number in pairs if other == group),) for group in sorted({group for group, _ in pairs})]


def closed_by_the_words(tree, states, there, answered, turn):
    """Point 23 once more, step by step."""
    known = {(place, key): (named, step, due, last) for place, key, named, step, due, last in states}
    following, calls = [], []
    for place, key, numbers in there:
        _, _, _, wait, again, chain, _ = row_at(tree, place)
        named, step, due, last = known.get((place, key), ([], 0, turn + wait, None))
        named = sorted(set(named) & set(numbers))
        if (place, key) in answered and last is not None:
            step = 0
            if set(numbers) <= set(named):
                due = None
        if set(numbers) - set(named) and due is None:
            step = 0
            due = turn + wait if turn + wait > last + again else last + again
        if due is not None and due <= turn:
            calls.append((place, key, step, numbers[:]))
            named, last = numbers[:], turn
            step, due = (step + 1, turn + again) if step < len(chain) else (0, None)
        following.append((place, key, named, step, due, last))
    return following, calls
