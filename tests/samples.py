"""What the tests draw on: odd things of many kinds, names, and plans."""


class Contrary:
    """Agrees with everything when compared, and can neither be hashed, measured nor walked."""

    __hash__ = None

    def __eq__(self, other):
        return True

    def __lt__(self, other):
        return True

    __le__ = __gt__ = __ge__ = __lt__

    def __len__(self):
        raise RuntimeError("measured")

    def __iter__(self):
        raise RuntimeError("walked")

    def __bool__(self):
        raise RuntimeError("asked for its truth")


def no_numbers():
    return [True, False, None, "", "1", "a", [], [1], (), (1,), {}, {1: 1}, set(), 1.0, 0.5,
            float("nan"), 1j, b"1", object(), int, len, range(3), Contrary()]


def no_names():
    return [True, False, None, 0, 1, 12, [], ["a"], (), ("a",), {}, {"a": 1}, {"a"}, 1.0, b"a",
            object(), str, len, range(3), Contrary(), "", "abcdefghijklm", "A", "a b", "a1", "a\n"]


# One of each of the seven steps.
STEPS = [("take", "buys", "buy"), ("only", "great", "buys", 5, 10), ("turn", "back", "buys", -1, 0),
         ("both", "all", "buys", "back"), ("join", "met", "buys", "back", 60),
         ("each", "perday", "buys", "sum", 10, 5), ("gap", "visits", "buys", "count", 30)]


def name_at(number):
    """A name for each number, from aa on."""
    return "abcdefghijklmnopqrstuvwxyz"[number // 26] + "abcdefghijklmnopqrstuvwxyz"[number % 26]


def doubled(word, times):
    """A take and some steps behind it, each fed twice by the one ahead: so each is twice as wide."""
    plan = [("take", "aa", "buy")]
    for number in range(1, times + 1):
        step = (word, name_at(number), name_at(number - 1), name_at(number - 1))
        plan.append(step + (7,) if word == "join" else step)
    return plan


def tally_by_words(amounts):
    return (len(amounts), sum(amounts), min(amounts), max(amounts))
