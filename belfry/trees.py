"""Trees of rows, tuples (askings, on, by, wait, again, chain, rows), and the places of marks in them."""

from belfry.askings import meets_all
from belfry.errors import NoPlace
from belfry.marks import value_in


def places_from(row, place):
    found = [place]
    for k, below in enumerate(row[6]):
        found.extend(places_from(below, place + (k,)))
    return found


def places(tree):
    return places_from(tree, ())


def row_at(tree, place):
    row = tree
    for k in place:
        # Python would count a number below 0 from the end.
        if not 0 <= k < len(row[6]):
            raise NoPlace("the tree has no such place")
        row = row[6][k]
    return row


def taken_from(row, place, marks):
    found = []
    for k, below in enumerate(row[6]):
        if meets_all(below[0], marks):
            found.extend(taken_from(below, place + (k,), marks))
            if not below[1]:
                break
    return found if found else [place]


def taken(tree, marks):
    return taken_from(tree, (), marks)


def key_of(row, marks):
    return tuple([value_in(marks, name) for name in row[2]])


def groups_of(tree, marks):
    return [(place, key_of(row_at(tree, place), marks)) for place in taken(tree, marks)]
