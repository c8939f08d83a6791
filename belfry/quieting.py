"""Sayings, tuples (number, marks, weight, came, gone), and the grounds by which they are quieted."""

from belfry.askings import meets_all
from belfry.marks import value_in


def stands(saying, turn):
    return saying[3] <= turn and (saying[4] is None or saying[4] > turn)


def in_force(quieting, turn):
    return quieting[2] <= turn < quieting[3]


def have_same_values(marks, others, names):
    return all([value_in(marks, name) == value_in(others, name) for name in names])


def is_greater(other, saying, rule):
    return meets_all(rule[0], other[1]) and have_same_values(saying[1], other[1], rule[2])


def ground(saying, sayings, quietings, rules, turn):
    there = [quieting for quieting in quietings if in_force(quieting, turn)]
    told = [quieting[0] for quieting in there if meets_all(quieting[1], saying[1])]
    if told:
        return ("told", min(told))
    heavier = [other for other in sayings if other[2] > saying[2] and stands(other, turn)]
    for k, rule in enumerate(rules):
        if meets_all(rule[1], saying[1]):
            greater = [other[0] for other in heavier if is_greater(other, saying, rule)]
            if greater:
                return ("greater", k, min(greater))
    return None
