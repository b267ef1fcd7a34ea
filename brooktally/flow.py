"""A plan at work: events come, rows are told."""

from brooktally.clocks import Clock
from brooktally.groups import Group
from brooktally.joins import Join
from brooktally.plans import tellers
from brooktally.routes import spread


def joins_of(plan):
    joins = {}
    for place, step in enumerate(plan):
        if step[0] == "join":
            joins[place] = Join(step[4])
    return joins


def groups_of(plan):
    groups = {}
    for place in tellers(plan):
        groups[place] = Group(plan[place])
    return groups


def put_event(plan, joins, groups, event):
    for place, item in spread(plan, joins, event):
        groups[place].put(item)


def drop_all(joins, now):
    for join in joins.values():
        join.drop(now)


def closed(groups, now):
    told = []
    for place, group in groups.items():
        told.extend([(row[3], place, row[1], row[2], row) for row in group.close(now)])
    return sorted(told)


def rows_of(told):
    return [mark[4] for mark in told]


class Flow:
    def __init__(self, plan, slack):
        self.plan = list(plan)
        self.clock = Clock(slack)
        self.joins = joins_of(plan)
        self.groups = groups_of(plan)
        self.number = 0

    def come(self, event):
        if not self.clock.admit(event[0]):
            return (False, [])
        put_event(self.plan, self.joins, self.groups, event)
        drop_all(self.joins, self.clock.now)
        return (True, self.told_by(self.clock.now))

    def told_by(self, now):
        rows = rows_of(closed(self.groups, now))
        self.number = self.number + len(rows)
        return rows

    def finish(self):
        return self.told_by(None)
