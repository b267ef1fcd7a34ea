"""A keeper reads events by a flow, tells what it finds to its shelf, and goes on behind stops."""

from brooktally.flow import Flow
from brooktally.packs import packed
from brooktally.shelves import Shelf, slot_due
from brooktally.unpacks import unpacked


class Keeper:
    def __init__(self, plan, slack, every):
        self.plan = list(plan)
        self.slack = slack
        self.every = every
        self.shelf = Shelf()
        self.log = []
        self.flow = Flow(plan, slack)
        # The keep that was due behind the last event that was read, behind its slot, or None where none was:
        # finishing changes the flow, but not what a stop behind it may tear.
        self.due = None

    def come(self, event):
        self.log.append(event)
        if self.flow is not None:
            self.read(len(self.log) - 1)

    def read(self, place):
        number = self.flow.number
        told = self.flow.come(self.log[place])
        self.tell_rows(number, told[1])
        if not told[0]:
            self.shelf.name_late(place)
        self.due = self.keep_due(place + 1)
        if self.due is not None:
            self.shelf.write(self.due[0], self.due[1])

    def tell_rows(self, number, rows):
        for more, row in enumerate(rows):
            self.shelf.tell(number + more, row)

    def keep_due(self, number):
        slot = slot_due(number, self.every)
        return None if slot is None else (slot, packed(self.flow))

    def stop(self, many):
        if self.flow is not None and many is not None and self.due is not None:
            self.tear(many)
        self.flow = None

    def tear(self, many):
        lines = self.due[1]
        if many <= len(lines):
            self.shelf.torn(self.due[0], lines, many)

    def go_on(self):
        if self.flow is not None:
            return
        lines = self.shelf.last()
        self.flow = Flow(self.plan, self.slack) if lines is None else unpacked(self.plan, self.slack, lines)
        count = self.flow.clock.count
        self.due = self.keep_due(count)
        for place in range(count, len(self.log)):
            self.read(place)

    def finish(self):
        self.go_on()
        number = self.flow.number
        self.tell_rows(number, self.flow.finish())

    def outcome(self):
        return (list(self.shelf.rows), list(self.shelf.late))
