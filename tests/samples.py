"""What the tests draw on: odd things of many kinds, plans, events, and what the document says of them."""

import random


class Contrary:
    """Agrees with everything when compared, and can neither be hashed, measured nor walked."""

    __hash__ = None

    def __eq__(self, other):
        return True

    def __lt__(self, other):
        return True

    __le__ = __gt__ = __ge__ = __lt__

    def __len__(self):
        raise RuntimeError("measured")

    def __iter__(self):
        raise RuntimeError("walked")

    def __bool__(self):
        raise RuntimeError("asked for its truth")


def no_numbers():
    return [True, False, None, "", "1", "a", [], [1], (), (1,), {}, {1: 1}, set(), 1.0, 0.5,
            float("nan"), 1j, b"1", object(), int, len, range(3), Contrary()]


def no_names():
    return [True, False, None, 0, 1, 12, [], ["a"], (), ("a",), {}, {"a": 1}, {"a"}, 1.0, b"a",
            object(), str, len, range(3), Contrary(), "", "abcdefghijklm", "A", "a b", "a1", "a\n"]


# One of each of the seven steps.
STEPS = [("take", "buys", "buy"), ("only", "great", "buys", 5, 10), ("turn", "back", "buys", -1, 0),
         ("both", "all", "buys", "back"), ("join", "met", "buys", "back", 60),
         ("each", "perday", "buys", "sum", 10, 5), ("gap", "visits", "buys", "count", 30)]


def name_at(number):
    """A name for each number, from aa on."""
    return "abcdefghijklmnopqrstuvwxyz"[number // 26] + "abcdefghijklmnopqrstuvwxyz"[number % 26]


def doubled(word, times):
    """A take and some steps behind it, each fed twice by the one ahead: so each is twice as wide."""
    plan = [("take", "aa", "buy")]
    for number in range(1, times + 1):
        step = (word, name_at(number), name_at(number - 1), name_at(number - 1))
        plan.append(step + (7,) if word == "join" else step)
    return plan


def tally_by_words(amounts):
    return (len(amounts), sum(amounts), min(amounts), max(amounts))


def value_by_words(sort, amounts):
    return tally_by_words(amounts)[("count", "sum", "least", "greatest").index(sort)]


def windows_by_words(step, times):
    """The windows of a teller over some times of one key."""
    times = sorted(set(times))
    if step[0] == "each":
        size, by = step[4:]
        numbers = {number for time in times for number in range(time // by - 25, time // by + 2)}
        return [(number * by, number * by + size) for number in sorted(numbers)
                if any(number * by <= time < number * by + size for time in times)]
    cuts = [0] + [place for place in range(1, len(times)) if times[place] - times[place - 1] > step[4]] + [len(times)]
    return [(times[low], times[high - 1] + step[4] + 1) for low, high in zip(cuts, cuts[1:])]


def traced_by_words(plan, name, events):
    """The items of a stream, as (time, key, amount), each with the set of the places of the events it is made of."""
    step = [step for step in plan if step[1] == name][0]
    if step[0] == "take":
        return [((time, key, amount), {place}) for place, (time, kind, key, amount) in enumerate(events) if kind == step[2]]
    ones = traced_by_words(plan, step[2], events)
    if step[0] == "only":
        return [(item, places) for item, places in ones if step[3] <= item[2] <= step[4]]
    if step[0] == "turn":
        return [((time, key, amount * step[3] + step[4]), places) for (time, key, amount), places in ones]
    others = traced_by_words(plan, step[3], events)
    if step[0] == "both":
        return ones + others
    return [((max(a[0], b[0]), a[1], a[2] - b[2]), whence | thence) for a, whence in ones for b, thence in others
            if a[1] == b[1] and abs(a[0] - b[0]) <= step[4]]


def items_by_words(plan, name, events):
    return sorted(item for item, places in traced_by_words(plan, name, events))


def reasons_by_words(plan, events):
    """The rows that a plan tells once of some events, in order, each with the list of the places it is made of."""
    told = []
    for place, step in enumerate(plan):
        if step[0] in ("each", "gap"):
            traced = traced_by_words(plan, step[2], events)
            for key in {item[1] for item, places in traced}:
                own = [(item, places) for item, places in traced if item[1] == key]
                for start, end in windows_by_words(step, [item[0] for item, places in own]):
                    inner = [(item, places) for item, places in own if start <= item[0] < end]
                    row = (step[1], key, start, end, value_by_words(step[3], [item[2] for item, places in inner]))
                    reason = sorted(set().union(*[places for item, places in inner]))
                    told.append(((end, place, key, start), row, reason))
    return [(row, reason) for mark, row, reason in sorted(told)]


def rows_by_words(plan, events):
    return [row for row, reason in reasons_by_words(plan, events)]


def late_by_words(slack, times):
    """A time is late just where some time told ahead of it is more than the slack greater."""
    return [place for place, time in enumerate(times) if any(ahead - time > slack for ahead in times[:place])]


def on_time_by_words(slack, events):
    late = late_by_words(slack, [event[0] for event in events])
    return [event for place, event in enumerate(events) if place not in late], late


BUYS = ("take", "buys", "buy")
SALES = ("take", "sales", "sell")
# Each of the seven steps stands in one of these, one stream twice in a both and a join, joins behind joins and boths.
PLANS = [
    [],
    [BUYS],
    [BUYS, ("each", "days", "buys", "sum", 10, 5)],
    [BUYS, ("gap", "rest", "buys", "count", 4)],
    [BUYS, SALES, ("only", "great", "buys", 0, 5), ("turn", "back", "sales", -2, 1), ("both", "all", "great", "back"),
     ("each", "full", "all", "least", 7, 7), ("gap", "rest", "all", "greatest", 3), ("each", "days", "back", "sum", 10, 3)],
    [BUYS, SALES, ("join", "met", "buys", "sales", 6), ("each", "days", "met", "sum", 8, 4),
     ("gap", "rest", "met", "count", 2), ("each", "raw", "buys", "count", 5, 5)],
    [BUYS, ("both", "twice", "buys", "buys"), ("join", "self", "buys", "buys", 3), ("each", "a", "twice", "count", 6, 2),
     ("gap", "b", "self", "sum", 1), ("each", "c", "self", "count", 9, 9)],
    [SALES, BUYS, ("both", "all", "sales", "buys"), ("join", "one", "all", "buys", 2),
     ("turn", "two", "one", 3, -1), ("join", "deep", "two", "sales", 4), ("gap", "z", "deep", "sum", 2),
     ("each", "y", "deep", "greatest", 4, 3), ("each", "x", "one", "least", 20, 1)],
    [BUYS, SALES, ("join", "met", "buys", "sales", 0), ("join", "back", "sales", "buys", 5), ("both", "all", "met", "back"),
     ("only", "few", "all", -3, 3), ("gap", "d", "few", "least", 5), ("gap", "c", "few", "greatest", 5),
     ("each", "b", "few", "sum", 6, 6), ("each", "a", "few", "count", 6, 6)],
]


def some_events(chance, many, span, kinds=("buy", "sell", "other"), keys=("ann", "bob", "c")):
    return [(chance.randrange(span), chance.choice(kinds), chance.choice(keys), chance.randrange(-6, 7))
            for number in range(many)]


def chances(seed, many):
    return [random.Random(seed * 1000 + number) for number in range(many)]
