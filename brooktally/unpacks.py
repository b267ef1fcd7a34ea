"""Keeps read back as flows."""

from brooktally.errors import BadKeep
from brooktally.flow import Flow
from brooktally.packs import end_line
from brooktally.words import is_name, is_time, is_whole, number_of


def numbers_of(words):
    return [number_of(word) for word in words]


def are_whole(numbers):
    return all([is_whole(number) for number in numbers])


def clock_of(line):
    words = line.split(" ")
    numbers = numbers_of(words[1:])
    if words[0] != "clock" or len(numbers) != 3 or not are_whole(numbers):
        return None
    return tuple(numbers) if is_time(numbers[0]) and min(numbers) >= 0 else None


def item_of(words, joins):
    if words[0] != "item" or len(words) != 6:
        return None
    item = tuple(numbers_of(words[1:3]) + words[3:4] + numbers_of(words[4:]))
    good = item[0] in joins and item[1] in (0, 1) and is_name(item[2]) and is_time(item[3]) and is_whole(item[4])
    return item if good else None


def piece_of(words, groups):
    if words[0] != "piece" or len(words) != 9:
        return None
    piece = tuple(numbers_of(words[1:2]) + words[2:3] + numbers_of(words[3:]))
    good = piece[0] in groups and is_name(piece[1]) and are_whole(piece[2:])
    return piece if good else None


def put_item(joins, item):
    joins[item[0]].sides[item[1]].put((item[3], item[2], item[4]))


def put_piece(groups, piece):
    groups[piece[0]].rows.setdefault(piece[1], []).append((piece[2], piece[3], piece[4:]))


def put_line(line, joins, groups, last):
    # Told is the line's mark, by which lines stand in order, items ahead of pieces; None of a line that is wrong.
    words = line.split(" ")
    item = item_of(words, joins)
    if item is not None and (0,) + item >= last:
        put_item(joins, item)
        return (0,) + item
    piece = piece_of(words, groups)
    if piece is not None and (1,) + piece[:3] > last:
        put_piece(groups, piece)
        return (1,) + piece[:3]
    return None


def put_lines(lines, joins, groups):
    last = (0,)
    for place in range(1, len(lines)):
        if lines[place] == end_line(place):
            if place + 1 < len(lines):
                raise BadKeep(place + 1)
            return
        last = put_line(lines[place], joins, groups, last)
        if last is None:
            raise BadKeep(place)
    raise BadKeep(len(lines))


def unpacked(plan, slack, lines):
    flow = Flow(plan, slack)
    first = clock_of(lines[0]) if len(lines) > 0 else None
    if first is None:
        raise BadKeep(0)
    put_lines(lines, flow.joins, flow.groups)
    clock = flow.clock
    clock.now = first[0]
    clock.count = first[1]
    flow.number = first[2]
    return flow
