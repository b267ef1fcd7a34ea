"""A plan read once over the whole row of events."""

from brooktally.clocks import Clock
from brooktally.plans import place_of, tellers
from brooktally.ranks import ahead
from brooktally.routes import passed, taken
from brooktally.spans import starts
from brooktally.steps import feeders, name_of
from brooktally.tallies import value


def taken_all(step, events):
    # Each item bears, behind its amount, the places of the events that it is made of.
    items = []
    for place, event in enumerate(events):
        items.extend([item + ((place,),) for item in taken(step, event)])
    return items


def by_keys(items):
    rows = {}
    for time, key, amount, places in sorted(items):
        rows.setdefault(key, []).append((time, amount, places))
    return rows


def between(row, low, high):
    return row[ahead(row, (low,)):ahead(row, (high,))]


def met_once(item, other):
    places = tuple(sorted(set(item[3] + other[2])))
    return (max(item[0], other[0]), item[1], item[2] - other[1], places)


def joined_all(within, streams):
    rows = by_keys(streams[1])
    made = []
    for item in streams[0]:
        near = between(rows.get(item[1], []), item[0] - within, item[0] + within + 1)
        made.extend([met_once(item, other) for other in near])
    return made


def streams_of(plan, events):
    told = {}
    for step in plan:
        streams = [told[name] for name in feeders(step)]
        if step[0] == "take":
            told[name_of(step)] = taken_all(step, events)
        elif step[0] == "join":
            told[name_of(step)] = joined_all(step[4], streams)
        else:
            told[name_of(step)] = passed(step, streams)
    return told


def items_of(plan, name, events):
    streams = streams_of(plan[:place_of(plan, name) + 1], events)
    return sorted([item[:3] for item in streams[name]])


def each_windows(times, size, step):
    begins = {}
    for time in times:
        for start in starts(time, size, step):
            begins[start] = True
    return [(start, start + size) for start in sorted(begins)]


def gap_windows(times, most):
    parts = []
    for time in times:
        if len(parts) == 0 or time - parts[-1][1] > most:
            parts.append((time, time))
        else:
            parts[-1] = (parts[-1][0], time)
    return [(first, last + most + 1) for first, last in parts]


def windows_of(step, times):
    if step[0] == "each":
        return each_windows(times, step[4], step[5])
    return gap_windows(times, step[4])


def told_value(step, inner):
    amounts = [amount for time, amount, places in inner]
    return value(step[3], (len(amounts), sum(amounts), min(amounts), max(amounts)))


def told_of_key(place, step, key, row):
    told = []
    for start, end in windows_of(step, [part[0] for part in row]):
        inner = between(row, start, end)
        told.append((end, place, key, start, (step[1], key, start, end, told_value(step, inner)), inner))
    return told


def told_of(plan, events):
    # Each told row stands behind what it is ordered by, and ahead of what lies within its window.
    streams = streams_of(plan, events)
    told = []
    for place in tellers(plan):
        rows = by_keys(streams[plan[place][2]])
        for key in rows:
            told.extend(told_of_key(place, plan[place], key, rows[key]))
    return sorted(told)


def told_once(plan, events):
    return [mark[4] for mark in told_of(plan, events)]


def on_time(slack, events):
    clock = Clock(slack)
    kept = []
    late = []
    for place, event in enumerate(events):
        if clock.admit(event[0]):
            kept.append(event)
        else:
            late.append(place)
    return (kept, late)
