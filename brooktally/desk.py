"""A desk: a keeper to which lines are said, each answered by a list of lines."""

from brooktally.answers import late_line
from brooktally.errors import BadEvent
from brooktally.events import event_of
from brooktally.keepers import Keeper
from brooktally.notes import plan_of
from brooktally.once import on_time
from brooktally.reasons import why
from brooktally.words import line_of, number_of


class Desk:
    def __init__(self, plan_lines, slack, every):
        self.keeper = Keeper(plan_of(plan_lines), slack, every)
        self.ended = False
        # How many rows and late places of the shelf were told by lines.
        self.rows_said = 0
        self.late_said = 0

    def say(self, line):
        if line.startswith("event "):
            return self.hear(line[6:])
        if line.startswith("why "):
            return self.reason(line[4:])
        if line == "on":
            return self.set_going()
        if line == "end":
            return self.finish()
        if line == "stop":
            return self.halt(None)
        many = number_of(line[5:]) if line.startswith("stop ") else None
        if many is not None and many >= 0:
            return self.halt(many)
        return ["no such line"]

    def is_stopped(self):
        return self.keeper.flow is None

    def unsaid(self):
        rows = self.keeper.shelf.rows[self.rows_said:]
        late = self.keeper.shelf.late[self.late_said:]
        self.rows_said = self.rows_said + len(rows)
        self.late_said = self.late_said + len(late)
        return [line_of(("row",) + row) for row in rows] + [late_line(place) for place in late]

    def hear(self, text):
        try:
            event = event_of(text)
        except BadEvent:
            return ["no event"]
        if self.ended:
            return ["over"]
        self.keeper.come(event)
        return ["kept"] if self.is_stopped() else self.unsaid()

    def halt(self, many):
        if self.is_stopped():
            return ["stopped already"]
        self.keeper.stop(many)
        return ["stopped"]

    def set_going(self):
        if not self.is_stopped():
            return ["going already"]
        self.keeper.go_on()
        return self.unsaid()

    def finish(self):
        self.keeper.go_on()
        told = self.unsaid()
        self.keeper.finish()
        self.ended = True
        return told + self.unsaid()

    def reason(self, text):
        rows = [row for row in self.keeper.shelf.rows if line_of(row) == text]
        if len(rows) == 0:
            return ["no row"]
        log = self.keeper.log
        pair = on_time(self.keeper.slack, log)
        # The events on time are counted among themselves, but told by their places in the log.
        places = [place for place in range(len(log)) if place not in pair[1]]
        return [line_of(["from"] + [places[number] for number in why(self.keeper.plan, pair[0], rows[0])])]
