"""A hand: a plan's memory without a clock, which can give up a key and take one in."""

from brooktally.flow import closed, drop_all, groups_of, joins_of, put_event
from brooktally.unpacks import put_item, put_piece


class Hand:
    def __init__(self, plan):
        self.plan = list(plan)
        self.joins = joins_of(plan)
        self.groups = groups_of(plan)

    def bring(self, event):
        put_event(self.plan, self.joins, self.groups, event)

    def forget(self, now):
        drop_all(self.joins, now)

    def over(self, now):
        return closed(self.groups, now)

    def give_up(self, key):
        items = []
        for place, join in self.joins.items():
            for side, kept in enumerate(join.sides):
                items.extend([(place, side) + pair for pair in kept.rows.pop(key, [])])
        pieces = []
        for place, group in self.groups.items():
            pieces.extend([(place,) + piece for piece in group.rows.pop(key, [])])
        return (items, pieces)

    def take_in(self, key, parcel):
        for place, side, time, amount in parcel[0]:
            put_item(self.joins, (place, side, key, time, amount))
        for place, start, end, tally in parcel[1]:
            put_piece(self.groups, (place, key, start, end) + tally)
