"""From a plan's lines and events' lines to the lines of the answer."""

from brooktally.events import event_of
from brooktally.keepers import Keeper
from brooktally.notes import plan_of
from brooktally.words import line_of


def late_line(place):
    return line_of(["late", place])


def answer(plan_lines, slack, every, event_lines, stops):
    keeper = Keeper(plan_of(plan_lines), slack, every)
    events = [event_of(line) for line in event_lines]
    for place, event in enumerate(events):
        keeper.come(event)
        for many in [stop[1] for stop in stops if stop[0] == place]:
            keeper.stop(many)
            keeper.go_on()
    keeper.finish()
    outcome = keeper.outcome()
    return [line_of(row) for row in outcome[0]] + [late_line(place) for place in outcome[1]]
