"""Keeps: all that a flow knows beside its plan and slack, as lines."""

from brooktally.words import line_of


def end_line(many):
    return line_of(["end", many])


def has_end(lines):
    return len(lines) > 0 and lines[-1] == end_line(len(lines) - 1)


def item_lines(joins):
    lines = []
    for place in sorted(joins):
        for side, items in enumerate(joins[place].sides):
            lines.extend([line_of(("item", place, side) + item) for item in items.kept()])
    return lines


def piece_lines(groups):
    lines = []
    for place in sorted(groups):
        lines.extend([line_of(("piece", place) + piece[:3] + piece[3]) for piece in groups[place].pieces()])
    return lines


def keep_of(first, joins, groups):
    lines = [first] + item_lines(joins) + piece_lines(groups)
    return lines + [end_line(len(lines))]


def packed(flow):
    first = line_of(["clock", flow.clock.now, flow.clock.count, flow.number])
    return keep_of(first, flow.joins, flow.groups)
