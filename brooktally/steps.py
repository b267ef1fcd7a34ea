"""What one step of a plan is, each by itself: how steps stand together is the plan's affair."""

from brooktally.words import is_among, is_amount, is_name

LENGTHS = {"take": 3, "only": 5, "turn": 5, "both": 4, "join": 5, "each": 6, "gap": 5}
PAIRED = ("both", "join")
TELLERS = ("each", "gap")
TALLIES = ("count", "sum", "least", "greatest")
MOST_TIMES = 9
MOST_TICKS = 1000000
MOST_WINDOWS = 20


def has_form(thing):
    if not isinstance(thing, tuple) or len(thing) == 0:
        return False
    # Not all things can be looked up in a dict, but all texts can.
    return isinstance(thing[0], str) and thing[0] in LENGTHS and len(thing) == LENGTHS[thing[0]]


def names_end(step):
    return 4 if step[0] in PAIRED else 3


def is_tally(thing):
    return isinstance(thing, str) and thing in TALLIES


def is_ticks(thing, least):
    return is_among(thing, least, MOST_TICKS)


def are_bounds(low, high):
    return is_amount(low) and is_amount(high) and low <= high


def are_windows(size, step):
    return is_ticks(size, 1) and is_among(step, 1, size) and size <= MOST_WINDOWS * step


def are_good(word, rest):
    if word == "only":
        return are_bounds(rest[0], rest[1])
    if word == "turn":
        return is_among(rest[0], -MOST_TIMES, MOST_TIMES) and is_amount(rest[1])
    if word == "join":
        return is_ticks(rest[0], 0)
    if word == "each":
        return is_tally(rest[0]) and are_windows(rest[1], rest[2])
    if word == "gap":
        return is_tally(rest[0]) and is_ticks(rest[1], 0)
    return True


def is_step(thing):
    if not has_form(thing):
        return False
    end = names_end(thing)
    return all([is_name(part) for part in thing[1:end]]) and are_good(thing[0], thing[end:])


def name_of(step):
    return step[1]


def feeders(step):
    # The kind of a take is a name, too, but of events, not of a stream.
    if step[0] == "take":
        return []
    return list(step[2:names_end(step)])


def is_teller(step):
    return step[0] in TELLERS
