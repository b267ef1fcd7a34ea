"""Things of many kinds that are neither whole numbers, texts nor tuples of what is asked for."""


class Contrary:
    """Agrees with everything when compared, and can neither be hashed, measured nor walked."""

    __hash__ = None

    def __eq__(self, other):
        return True

    def __lt__(self, other):
        return True

    __le__ = __gt__ = __ge__ = __lt__

    def __len__(self):
        raise RuntimeError("measured")

    def __iter__(self):
        raise RuntimeError("walked")

    def __bool__(self):
        raise RuntimeError("asked for its truth")


def no_numbers():
    return [True, False, None, "", "1", "a", [], [1], (), (1,), {}, {1: 1}, set(), 1.0, 0.5,
            float("nan"), 1j, b"1", object(), int, len, range(3), Contrary()]


def no_names():
    return [True, False, None, 0, 1, 12, [], ["a"], (), ("a",), {}, {"a": 1}, {"a"}, 1.0, b"a",
            object(), str, len, range(3), Contrary(), "", "abcdefghijklm", "A", "a b", "a1", "a\n"]
