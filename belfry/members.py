"""The members of the groups at a turn: the sayings that stand there and are not quieted."""

from belfry.quieting import ground, in_force, stands
from belfry.trees import groups_of


def members(tree, sayings, quietings, rules, turn):
    # What is not there at this turn cannot matter to a ground, so it is looked at once, not for each saying.
    standing = [saying for saying in sayings if stands(saying, turn)]
    forcing = [quieting for quieting in quietings if in_force(quieting, turn)]
    numbers = {}
    for saying in standing:
        if ground(saying, standing, forcing, rules, turn) is None:
            for group in groups_of(tree, saying[1]):
                numbers.setdefault(group, []).append(saying[0])
    return [group + (sorted(numbers[group]),) for group in sorted(numbers)]
