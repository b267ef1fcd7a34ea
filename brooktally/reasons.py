"""Why a row is told: the places of the events that it is made of."""

from brooktally.once import told_of


def reason_of(inner):
    reason = {}
    for time, amount, places in inner:
        for place in places:
            reason[place] = True
    return sorted(reason)


def told_why(plan, events):
    return [(mark[4], reason_of(mark[5])) for mark in told_of(plan, events)]


def why(plan, events, row):
    for mark in told_of(plan, events):
        if mark[4] == row:
            return reason_of(mark[5])
    return []
