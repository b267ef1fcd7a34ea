"""Keeps of hands: all that a hand keeps, as lines."""

from brooktally.errors import BadKeep
from brooktally.hands import Hand
from brooktally.packs import has_end, keep_of
from brooktally.unpacks import put_lines
from brooktally.words import line_of, number_of


def hand_packed(hand, count):
    return keep_of(line_of(["hand", count]), hand.joins, hand.groups)


def count_of(line):
    # -1 of a line that is no hand line.
    words = line.split(" ")
    number = number_of(words[1]) if len(words) == 2 and words[0] == "hand" else None
    return -1 if number is None or number < 0 else number


def hand_unpacked(plan, lines):
    count = count_of(lines[0]) if len(lines) > 0 else -1
    if count < 0:
        raise BadKeep(0)
    hand = Hand(plan)
    put_lines(lines, hand.joins, hand.groups)
    return (hand, count)


def whole_count(lines):
    return count_of(lines[0]) if has_end(lines) else -1
