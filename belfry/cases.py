"""Marks that are taken at a place of a tree, or else a case that bears that none are."""

from belfry.askings import meets, meets_all, names_in, values_beside
from belfry.marks import has_name
from belfry.trees import places, row_at


def askings_at(tree, some_places):
    askings = []
    for place in some_places:
        askings.extend(row_at(tree, place)[0])
    return askings


# The tree's own row is the first of the places; its askings are not looked at.
def askings_below(tree):
    return askings_at(tree, places(tree)[1:])


def values_with(tree, name):
    return values_beside(askings_below(tree), name)


def names_asked(tree):
    return names_in(askings_below(tree))


def values_to_split(tree, name):
    return values_with(tree, name) + ["", None]


# What was split is a tuple of pairs (name, value). A value that was told as
# None stays None here: so it stands in the marks, but in no asking.
def marks_split(split):
    return tuple([pair for pair in split if pair[1] != ""])


def lies_above(at, place):
    return at != () and place[: len(at)] == at


def takes_away(tree, at, place):
    if at == ():
        return False
    above = at[:-1]
    if above == place:
        return True
    if place[: len(above)] != above or at[-1] >= place[len(above)]:
        return False
    return not row_at(tree, at)[1]


def fails(tree, at, place, split):
    if not lies_above(at, place):
        return False
    marks = marks_split(split)
    return any([has_name(split, asking[1]) and not meets(asking, marks) for asking in row_at(tree, at)[0]])


def is_caught(tree, at, place, split):
    if not takes_away(tree, at, place):
        return False
    askings = row_at(tree, at)[0]
    return all([has_name(split, asking[1]) for asking in askings]) and meets_all(askings, marks_split(split))


def bears_for(tree, place, case, split):
    if case[0] == "split":
        return bears_split(tree, place, case, split)
    if case[1] not in places(tree):
        return False
    if case[0] == "fails":
        return fails(tree, case[1], place, split)
    return is_caught(tree, case[1], place, split)


def bears_split(tree, place, case, split):
    name = case[1]
    if has_name(split, name) or name not in names_asked(tree):
        return False
    if [pair[0] for pair in case[2]] != values_to_split(tree, name):
        return False
    return all([bears_for(tree, place, pair[1], split + ((name, pair[0]),)) for pair in case[2]])


def bears(tree, place, case):
    return bears_for(tree, place, case, ())


def places_that_matter(tree, place):
    return [at for at in places(tree) if lies_above(at, place) or takes_away(tree, at, place)]


def plain_case(tree, place, matter, split):
    for at in matter:
        if fails(tree, at, place, split):
            return ("fails", at)
        if is_caught(tree, at, place, split):
            return ("caught", at)
    return None


def value_beside(values):
    k = 0
    while str(k) in values:
        k = k + 1
    return str(k)


def marks_told(tree, split):
    marks = []
    for pair in marks_split(split):
        value = value_beside(values_with(tree, pair[0])) if pair[1] is None else pair[1]
        marks.append((pair[0], value))
    return tuple(marks)


# Where all names that matter are split and no row keeps the marks away, they are taken.
def shown_for(tree, place, matter, names, split):
    case = plain_case(tree, place, matter, split)
    if case is not None:
        return ("cases", case)
    if not names:
        return ("marks", marks_told(tree, split))
    cases = []
    for value in values_to_split(tree, names[0]):
        found = shown_for(tree, place, matter, names[1:], split + ((names[0], value),))
        if found[0] == "marks":
            return found
        cases.append((value, found[1]))
    return ("cases", ("split", names[0], tuple(cases)))


def shown(tree, place):
    # Asked for its refusal alone.
    row_at(tree, place)
    matter = places_that_matter(tree, place)
    return shown_for(tree, place, matter, names_in(askings_at(tree, matter)), ())
