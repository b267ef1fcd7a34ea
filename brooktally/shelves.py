"""The shelf, which outlives a stop: two slots for keeps, the told rows, the places of late events."""

from brooktally.errors import Broken
from brooktally.packs import has_end
from brooktally.unpacks import clock_of


def kept_count(lines):
    first = clock_of(lines[0]) if has_end(lines) else None
    return -1 if first is None else first[1]


def slot_due(number, every):
    # The slot of the keep that is written behind so many events, or None where none is.
    return number // every % 2 if number > 0 and number % every == 0 else None


class Shelf:
    def __init__(self):
        self.slots = [[], []]
        self.rows = []
        self.late = []

    def write(self, slot, lines):
        self.slots[slot] = list(lines)

    def torn(self, slot, lines, many):
        self.write(slot, lines[:many])

    def last(self):
        counts = [kept_count(lines) for lines in self.slots]
        if max(counts) < 0:
            return None
        # Of like counts the first one is found.
        return list(self.slots[counts.index(max(counts))])

    def tell(self, number, row):
        if number == len(self.rows):
            self.rows.append(row)
        elif not 0 <= number < len(self.rows) or self.rows[number] != row:
            raise Broken("a row's number was left out, or another row has it")

    def name_late(self, place):
        if len(self.late) == 0 or place > self.late[-1]:
            self.late.append(place)
        elif place not in self.late:
            raise Broken("a late event's place was left out")
