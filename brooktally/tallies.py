"""Tallies of amounts: how many, what they are together, the least, the greatest."""

from brooktally.steps import TALLIES


def tally_of(amount):
    return (1, amount, amount, amount)


def added(one, other):
    return (one[0] + other[0], one[1] + other[1], min(one[2], other[2]), max(one[3], other[3]))


def value(sort, tally):
    # A tally's parts stand in the order in which steps name them.
    return tally[TALLIES.index(sort)]
