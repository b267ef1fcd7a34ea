"""Joins: items that come on two sides, and what they make where they meet."""

from brooktally.sides import Side


def met_item(side, item, pair):
    first = item[2] if side == 0 else pair[1]
    second = pair[1] if side == 0 else item[2]
    return (max(item[0], pair[0]), item[1], first - second)


class Join:
    def __init__(self, within):
        self.within = within
        self.sides = [Side(), Side()]

    def come(self, side, item):
        met = self.sides[1 - side].near(item[1], item[0] - self.within, item[0] + self.within)
        self.sides[side].put(item)
        return sorted([met_item(side, item, pair) for pair in met])

    def drop(self, now):
        for side in self.sides:
            side.drop(now - self.within)
