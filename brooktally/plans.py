"""What a plan is, and who feeds whom in it."""

from brooktally.errors import BadStep
from brooktally.steps import feeders, is_step, is_teller, name_of

MOST_STEPS = 30
MOST_WIDE = 32


def is_fed(step, widths):
    return all([name in widths for name in feeders(step)])


def width_of(step, widths):
    # A take has no feeder, and is as wide as one event.
    return max(1, sum([widths[name] for name in feeders(step)]))


def fits(step, names, widths):
    return name_of(step) not in names and is_fed(step, widths) and width_of(step, widths) <= MOST_WIDE


def checked(plan):
    if not isinstance(plan, list) or len(plan) > MOST_STEPS:
        raise BadStep(None)
    names = {}
    widths = {}
    for place, step in enumerate(plan):
        if not is_step(step) or not fits(step, names, widths):
            raise BadStep(place)
        names[name_of(step)] = True
        # Tellers stand among the names alone: nothing is fed by them.
        if not is_teller(step):
            widths[name_of(step)] = width_of(step, widths)
    return True


def place_of(plan, name):
    return [name_of(step) for step in plan].index(name)


def fed(plan, place):
    name = name_of(plan[place])
    told = []
    for other, step in enumerate(plan):
        for side, feeder in enumerate(feeders(step)):
            if feeder == name:
                told.append((other, side))
    return told


def tellers(plan):
    return [place for place, step in enumerate(plan) if is_teller(step)]
