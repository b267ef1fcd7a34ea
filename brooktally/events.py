"""Events, and the lines that write them."""

from brooktally.errors import BadEvent
from brooktally.words import is_amount, is_name, is_time, line_of, number_of


def is_event(thing):
    if not isinstance(thing, tuple) or len(thing) != 4:
        return False
    return is_time(thing[0]) and is_name(thing[1]) and is_name(thing[2]) and is_amount(thing[3])


def shown(event):
    return line_of(event)


def event_of(line):
    parts = line.split(" ")
    if len(parts) != 4:
        raise BadEvent("an event's line has four words with one blank between")
    # A word that writes no number is None here, which is neither a time nor an amount.
    event = (number_of(parts[0]), parts[1], parts[2], number_of(parts[3]))
    if not is_event(event):
        raise BadEvent("an event's line is TIME KIND KEY AMOUNT")
    return event
