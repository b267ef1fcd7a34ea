"""Pieces of one key: its open windows, rising by their starts, each with the tally of its amounts."""

from brooktally.ranks import ahead
from brooktally.spans import meets, starts
from brooktally.tallies import added, tally_of


def put_window(pieces, start, end, tally):
    place = ahead(pieces, (start,))
    if place < len(pieces) and pieces[place][0] == start:
        there = pieces[place]
        return pieces[:place] + [(start, there[1], added(there[2], tally))] + pieces[place + 1:]
    return pieces[:place] + [(start, end, tally)] + pieces[place:]


def put_each(pieces, time, amount, size, step):
    told = list(pieces)
    for start in starts(time, size, step):
        told = put_window(told, start, start + size, tally_of(amount))
    return told


def put_gap(pieces, time, amount, most):
    met = [piece for piece in pieces if meets(piece[0], piece[1], time, most)]
    rest = [piece for piece in pieces if not meets(piece[0], piece[1], time, most)]
    start = min([time] + [piece[0] for piece in met])
    end = max([time + most + 1] + [piece[1] for piece in met])
    tally = tally_of(amount)
    for piece in met:
        tally = added(tally, piece[2])
    return put_window(rest, start, end, tally)


def parted(pieces, now):
    over = [piece for piece in pieces if piece[1] <= now]
    still = [piece for piece in pieces if piece[1] > now]
    return (over, still)
