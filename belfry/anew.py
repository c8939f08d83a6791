"""The log of a house, reckoned anew from its records alone."""

from belfry.reckoning import reckoned


def anew(tree, rotas, rules, top, records, turn):
    return reckoned(tree, rotas, rules, top, records, [], 0, turn)[1]
