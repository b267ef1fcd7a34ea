"""The memory of one teller: the open pieces of each key."""

from brooktally.pieces import parted, put_each, put_gap
from brooktally.ranks import with_keys
from brooktally.tallies import value


def put_by(step, pieces, item):
    if step[0] == "each":
        return put_each(pieces, item[0], item[2], step[4], step[5])
    return put_gap(pieces, item[0], item[2], step[4])


def row_of(step, key, piece):
    return (step[1], key, piece[0], piece[1], value(step[3], piece[2]))


def order_of(row):
    return (row[3], row[1], row[2])


class Group:
    def __init__(self, step):
        self.step = step
        self.rows = {}

    def put(self, item):
        key = item[1]
        self.rows[key] = put_by(self.step, self.rows.get(key, []), item)

    def close(self, now):
        told = []
        for key in list(self.rows):
            told.extend([row_of(self.step, key, piece) for piece in self.take(key, now)])
        return sorted(told, key=order_of)

    def take(self, key, now):
        pieces = self.rows.pop(key)
        if now is None:
            return pieces
        pair = parted(pieces, now)
        if len(pair[1]) > 0:
            self.rows[key] = pair[1]
        return pair[0]

    def pieces(self):
        return with_keys(self.rows)
