"""How an event spreads through the streams of a plan."""

from brooktally.steps import feeders, is_teller, name_of


def taken(step, event):
    return [(event[0], event[2], event[3])] if event[1] == step[2] else []


def turned(step, item):
    # Whatever else an item bears behind its amount goes with it.
    return item[:2] + (item[2] * step[3] + step[4],) + item[3:]


def passed(step, streams):
    if step[0] == "only":
        return [item for item in streams[0] if step[3] <= item[2] <= step[4]]
    if step[0] == "turn":
        return [turned(step, item) for item in streams[0]]
    if step[0] == "both":
        return streams[0] + streams[1]
    return streams[0]


def joined(join, streams):
    made = []
    for side, items in enumerate(streams):
        for item in items:
            made.extend(join.come(side, item))
    return made


def spread(plan, joins, event):
    brought = {}
    told = []
    for place, step in enumerate(plan):
        streams = [brought[name] for name in feeders(step)]
        if step[0] == "take":
            items = taken(step, event)
        elif step[0] == "join":
            items = joined(joins[place], streams)
        else:
            items = passed(step, streams)
        brought[name_of(step)] = items
        if is_teller(step):
            told.extend([(place, item) for item in items])
    return told
