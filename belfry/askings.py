"""Askings, tuples (word, name, values), and the marks that meet them."""

from belfry.marks import has_name, value_in


def meets(asking, marks):
    word = asking[0]
    name = asking[1]
    values = asking[2]
    if word == "is":
        return value_in(marks, name) in values
    if word == "no":
        return value_in(marks, name) not in values
    if word == "there":
        return has_name(marks, name)
    return not has_name(marks, name)


def meets_all(askings, marks):
    return all([meets(asking, marks) for asking in askings])


def names_in(askings):
    return sorted(set([asking[1] for asking in askings]))


def values_beside(askings, name):
    values = []
    for asking in askings:
        if asking[1] == name:
            values.extend(asking[2])
    return sorted(set(values))
