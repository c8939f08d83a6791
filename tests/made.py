"""Trees, marks and askings for the tests: written out, and made by chance from a told seed."""

import random
from itertools import product

VALUES_OF = {"env": ("live", "old"), "host": ("a1", "b2", "c3"), "rack": (), "zone": ("n",)}


def row(askings=(), on=False, by=(), wait=1, again=1, chain=(), rows=()):
    return (askings, on, by, wait, again, chain, tuple(rows))


def asking(chance):
    name = chance.choice(sorted(VALUES_OF))
    values = list(VALUES_OF[name])
    word = chance.choice(("is", "no", "there", "lacks") if values else ("there", "lacks"))
    if word in ("there", "lacks"):
        return (word, name, ())
    chance.shuffle(values)
    return (word, name, tuple(values[: chance.randint(1, len(values))]))


def askings(chance):
    return tuple(asking(chance) for _ in range(chance.choice((0, 1, 1, 1, 2, 2, 3, 4))))


def rows_below(chance, depth, room):
    """Rows that lie depth below the tree's own, at most room[0] of them and those below them."""
    rows = []
    for _ in range(chance.randint(0, 5) if depth <= 4 else 0):
        if room[0] == 0:
            break
        room[0] -= 1
        rows.append(some_row(chance, depth, room))
    return rows


def some_row(chance, depth, room):
    names = sorted(VALUES_OF) + ["level"]
    chance.shuffle(names)
    return row(
        askings(chance),
        chance.random() < 0.5,
        tuple(names[: chance.randint(0, 4)]),
        chance.choice((1, 2, 9, 10, 999999999, 10**9)),
        chance.choice((1, 3, 12, 10**9)),
        tuple(chance.choice(("one", "two", "night")) for _ in range(chance.randint(0, 4))),
        rows_below(chance, depth + 1, room),
    )


def trees(seed, number):
    """Some trees within the bounds of point 8."""
    chance = random.Random(seed)
    return [some_row(chance, 0, [chance.randint(0, 19)]) for _ in range(number)]


def all_marks():
    """Marks with each value of each name of these trees, with another one, and without one."""
    names = sorted(VALUES_OF)
    told = [VALUES_OF[name] + ("other", None) for name in names]
    return [
        tuple((name, value) for name, value in zip(names, values) if value is not None)
        for values in product(*told)
    ]


def rota(chance):
    """A rota whose turns within the first forty or so matter."""
    hands = ["ann", "bob", "cyd", "dan", "eve", "flo", "gus", "hal"]
    chance.shuffle(hands)
    return (tuple(hands[: chance.randint(1, 8)]), chance.randint(0, 50), chance.choice((1, 2, 3, 7, 20)))


def stretch(chance):
    first = chance.randint(0, 30)
    return (first, first + chance.randint(1, 20))


def swaps(chance, hands):
    number = chance.randint(0, 6) if len(hands) > 1 else 0
    return [tuple(chance.sample(hands, 2)) + stretch(chance) for _ in range(number)]


def absences(chance, hands):
    """Mostly of hands of the rota, so that now and then all are away."""
    number = chance.randint(0, 3 * len(hands))
    return [(chance.choice(hands + ("zoe",)),) + stretch(chance) for _ in range(number)]
