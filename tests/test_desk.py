import unittest

from brooktally import errors
from brooktally.desk import Desk
from brooktally.events import shown
from brooktally.flow import Flow
from brooktally.notes import written
from samples import PLANS, chances, no_numbers, on_time_by_words, reasons_by_words, some_events

BILLION = 1000000000
PLAN_LINES = ["buys take buy", "days each buys sum 10 10"]


def line(row):
    return " ".join(str(part) for part in row)


def row_lines(rows):
    return ["row " + line(row) for row in rows]


def whys_by_words(plan, slack, events):
    """For each row that is told in the end, its line and the answer to why."""
    kept, late = on_time_by_words(slack, events)
    places = [place for place in range(len(events)) if place not in late]
    return {line(row): ["from " + " ".join(str(places[number]) for number in reason)]
            for row, reason in reasons_by_words(plan, kept)}


class DeskTest(unittest.TestCase):
    def assert_said(self, desk, *pairs):
        for said, answer in pairs:
            told = desk.say(said)
            self.assertIs(type(told), list)
            self.assertEqual(told, answer, said)

    def test_events_while_it_is_going(self):
        self.assert_said(Desk(PLAN_LINES, 2, 3), ("event 3 buy ann 5", []), ("event 4 buy bob -6", []), ("event 9 sell ann 1", []),
                         ("event 12 buy ann 7", ["row days ann 0 10 5", "row days bob 0 10 -6"]),
                         ("event 9 buy ann 1", ["late 4"]), ("event 10 buy ann 1", []), ("event 0 buy ann 1", ["late 6"]),
                         ("event 22 sell zoe 0", ["row days ann 10 20 8"]), ("end", []))

    def test_no_events(self):
        desk = Desk(PLAN_LINES, 2, 3)
        odd = ["event ", "event x", "event 3 buy ann", "event 3 buy ann 5 5", "event  3 buy ann 5", "event 3 buy ann 5 ",
               "event 3  buy ann 5", "event -3 buy ann 5", "event 03 buy ann 5", "event 3 Buy ann 5", "event 3 buy ann 1000000001",
               "event event 3 buy ann 5", "event \t", "event 3 buy ann 5\n"]
        for state in (None, "stop", "on", "end", "stop", "end"):
            if state is not None:
                desk.say(state)
            self.assert_said(desk, *[(said, ["no event"]) for said in odd])
        self.assert_said(Desk(PLAN_LINES, 2, 3), *[(said, ["no event"]) for said in odd], ("end", []))

    def test_stopped_and_going(self):
        desk = Desk(PLAN_LINES, 0, 2)
        self.assert_said(desk, ("on", ["going already"]), ("event 3 buy ann 5", []), ("stop", ["stopped"]),
                         ("stop", ["stopped already"]), ("stop 3", ["stopped already"]), ("event 13 buy ann 6", ["kept"]),
                         ("event 2 buy ann 6", ["kept"]), ("event 23 buy bob 1", ["kept"]), ("event 4 buy bob 1", ["kept"]),
                         ("on", ["row days ann 0 10 5", "row days ann 10 20 6", "late 2", "late 4"]), ("on", ["going already"]),
                         ("stop 0", ["stopped"]), ("on", []), ("on", ["going already"]), ("end", ["row days bob 20 30 1"]))

    def test_each_is_told_once(self):
        desk = Desk(PLAN_LINES, 0, 100)
        self.assert_said(desk, ("event 3 buy ann 5", []), ("event 13 buy ann 5", ["row days ann 0 10 5"]),
                         ("event 4 buy ann 5", ["late 2"]), ("stop", ["stopped"]), ("on", []), ("stop", ["stopped"]),
                         ("event 5 buy ann 1", ["kept"]), ("event 25 buy ann 1", ["kept"]),
                         ("on", ["row days ann 10 20 5", "late 3"]), ("stop", ["stopped"]), ("on", []),
                         ("end", ["row days ann 20 30 1"]), ("stop", ["stopped"]), ("on", []), ("end", []))

    def test_the_end_while_it_is_going_and_behind_it(self):
        desk = Desk(PLAN_LINES, 0, 1)
        self.assert_said(desk, ("event 3 buy bob 5", []), ("event 4 buy ann 6", []),
                         ("end", ["row days ann 0 10 6", "row days bob 0 10 5"]), ("end", []), ("event 3 buy ann 5", ["over"]),
                         ("event x", ["no event"]), ("on", ["going already"]), ("stop", ["stopped"]), ("stop 1", ["stopped already"]),
                         ("event 3 buy ann 5", ["over"]), ("on", []), ("stop 0", ["stopped"]), ("event 90 buy ann 5", ["over"]),
                         ("end", []), ("on", ["going already"]), ("stop 1", ["stopped"]), ("on", []), ("end", []),
                         ("why days ann 0 10 6", ["from 1"]), ("x", ["no such line"]))
        self.assertEqual(desk.keeper.log, [(3, "buy", "bob", 5), (4, "buy", "ann", 6)])

    def test_the_end_while_it_is_stopped(self):
        desk = Desk(PLAN_LINES, 0, 1)
        self.assert_said(desk, ("event 3 buy bob 5", []), ("stop 1", ["stopped"]), ("event 12 buy ann 6", ["kept"]),
                         ("event 2 buy ann 6", ["kept"]),
                         ("end", ["row days bob 0 10 5", "late 2", "row days ann 10 20 6"]), ("on", ["going already"]))

    def test_the_end_of_nothing(self):
        for plan in PLANS:
            self.assert_said(Desk(written(plan), 3, 2), ("stop 0", ["stopped"]), ("on", []), ("end", []), ("end", []))

    def test_torn_keeps(self):
        for many in range(5):
            desk = Desk(PLAN_LINES, 100, 2)
            for time in range(4):
                self.assert_said(desk, ("event " + str(time) + " buy ann 1", []))
            self.assert_said(desk, ("stop " + str(many), ["stopped"]))
            self.assertEqual(len(desk.keeper.shelf.slots[0]), min(many, 3))
            self.assert_said(desk, ("on", []), ("end", ["row days ann 0 10 4"]))

    def test_why(self):
        desk = Desk(PLAN_LINES, 0, 2)
        told = "why days ann 0 10 7"
        self.assert_said(desk, (told, ["no row"]), ("event 3 buy ann 5", []), ("event 2 buy ann 1", ["late 1"]),
                         ("event 4 buy bob 1", []), ("event 4 buy ann 2", []), (told, ["no row"]),
                         ("event 10 sell ann 2", ["row days ann 0 10 7", "row days bob 0 10 1"]), (told, ["from 0 3"]),
                         ("why days bob 0 10 1", ["from 2"]), ("event 12 buy ann -7", []), ("why days ann 10 20 -7", ["no row"]),
                         ("stop", ["stopped"]), (told, ["from 0 3"]), ("event 14 buy ann 1", ["kept"]), (told, ["from 0 3"]),
                         ("why days ann 10 20 -6", ["no row"]), ("on", []), ("why days ann 10 20 -6", ["no row"]),
                         ("end", ["row days ann 10 20 -6"]), ("why days ann 10 20 -6", ["from 5 6"]), (told, ["from 0 3"]),
                         ("stop", ["stopped"]), (told, ["from 0 3"]))

    def test_no_rows(self):
        desk = Desk(PLAN_LINES, 0, 2)
        odd = ["why ", "why x", "why days ann 0 10", "why days ann 0 10 5 5", "why days ann 0 10 05", "why days ann 0 10 +5",
               "why days ann -0 10 5", "why days ann 0 10 6", "why days ann 0 11 5", "why days ann 1 10 5", "why days bob 0 10 5",
               "why buys ann 0 10 5", "why  days ann 0 10 5", "why days  ann 0 10 5", "why days ann 0 10 5 ", "why Days ann 0 10 5",
               "why row days ann 0 10 5", "why days ann 0 10 5\n", "why days\tann 0 10 5", "why why", "why \t"]
        self.assert_said(desk, *[(said, ["no row"]) for said in odd])
        desk.say("event 3 buy ann 5")
        self.assert_said(desk, *[(said, ["no row"]) for said in odd], ("end", ["row days ann 0 10 5"]))
        for state in ("end", "stop", "on"):
            desk.say(state)
            self.assert_said(desk, *[(said, ["no row"]) for said in odd], ("why days ann 0 10 5", ["from 0"]))

    def test_no_such_lines(self):
        desk = Desk(PLAN_LINES, 0, 2)
        odd = ["", " ", "\n", "x", "stop x", "stop -1", "event", "why", "stop ", "stop 01", "stop +1", "stop  1", "stop 1 ", "stop 1 2",
               "stop 1.0", "stop " + "1" * 61, "stop -0", "stop\t1", "stops", " stop", "on ", " on", "on 1", "on on", "On", "on\n", "end ",
               " end", "end 1", "End", "END", " event 3 buy ann 5", "Event 3 buy ann 5", "event\t3 buy ann 5", "events 3 buy ann 5",
               " why days ann 0 10 5", "whys", "why\tdays ann 0 10 5", "row days ann 0 10 5", "late 0", "kept", "3 buy ann 5",
               "stopevent", "going already", "help"]
        for state in (None, "event 3 buy ann 5", "stop", "on", "end", "stop"):
            if state is not None:
                desk.say(state)
            self.assert_said(desk, *[(said, ["no such line"]) for said in odd])
        self.assertEqual(desk.keeper.log, [(3, "buy", "ann", 5)])

    def test_odd_lines_change_nothing(self):
        desk = Desk(PLAN_LINES, 0, 2)
        self.assert_said(desk, ("stop x", ["no such line"]), ("event 3 buy ann 5", []), ("end 1", ["no such line"]),
                         ("event 13 buy ann 5", ["row days ann 0 10 5"]), ("stop -1", ["no such line"]), ("on", ["going already"]))

    def test_great_numbers_behind_stop(self):
        self.assert_said(Desk(PLAN_LINES, 0, 2), ("stop 0", ["stopped"]), ("on", []), ("stop " + "1" * 60, ["stopped"]))

    def test_refused(self):
        bad_line = PLAN_LINES + ["odd"]
        bad_step = PLAN_LINES + ["buys take buy"]
        for slack in [5, -1, BILLION + 1] + no_numbers():
            for lines, error in ((bad_line, errors.BadLine), (bad_step, errors.BadStep), (bad_step + ["odd"], errors.BadLine)):
                with self.assertRaises(error) as caught:
                    Desk(lines, slack, 2)
                self.assertIs(type(caught.exception), error)
                self.assertEqual(caught.exception.place, 3 if len(lines) == 4 else 2)
        for slack in [-1, BILLION + 1] + no_numbers():
            with self.assertRaises(errors.BadSlack) as caught:
                Desk(PLAN_LINES, slack, 2)
            self.assertIs(type(caught.exception), errors.BadSlack)

    def test_what_was_handed_in_and_told_may_be_changed_behind(self):
        lines = list(PLAN_LINES)
        desk = Desk(lines, 0, 1)
        self.assertEqual(lines, PLAN_LINES)
        lines.clear()
        desk.say("event 3 buy ann 5").append("more")
        told = desk.say("event 13 buy ann 5")
        told.clear()
        desk.say("stop").clear()
        desk.say("on").append("more")
        desk.say("why days ann 0 10 5").clear()
        desk.say("x").clear()
        self.assert_said(desk, ("why days ann 0 10 5", ["from 0"]), ("x", ["no such line"]), ("stop", ["stopped"]),
                         ("end", ["row days ann 10 20 5"]), ("end", []))

    def test_whatever_is_said(self):
        for plan in PLANS:
            for chance in chances(100, 8):
                slack = chance.choice([0, 3, 9, BILLION])
                events = some_events(chance, 16, 30)
                desk = Desk(written(plan), slack, chance.choice([1, 2, 3, 100]))
                flow = Flow(plan, slack)
                waiting = []
                stopped = False
                told_rows = []
                for place, event in enumerate(events):
                    if chance.random() < 0.3:
                        many = chance.choice(["", " 0", " 1", " 2", " 3", " 7", " 1000"])
                        self.assert_said(desk, ("stop" + many, ["stopped already" if stopped else "stopped"]))
                        stopped = True
                    if chance.random() < 0.4:
                        self.assert_said(desk, ("on", self.on_by_words(flow, waiting, told_rows) if stopped else ["going already"]))
                        stopped = False
                    waiting.append((place, event))
                    answer = ["kept"] if stopped else self.on_by_words(flow, waiting, told_rows)
                    self.assert_said(desk, ("event " + shown(event), answer))
                    self.assert_whys(desk, plan, slack, events[:place + 1], told_rows)
                rest = self.on_by_words(flow, waiting, told_rows)
                rows = flow.finish()
                told_rows.extend(line(row) for row in rows)
                self.assert_said(desk, ("end", rest + row_lines(rows)), ("end", []))
                self.assert_whys(desk, plan, slack, events, told_rows)

    def on_by_words(self, flow, waiting, told_rows):
        rows = []
        late = []
        for place, event in waiting:
            told = flow.come(event)
            rows.extend(told[1])
            late.extend([] if told[0] else ["late " + str(place)])
        waiting.clear()
        told_rows.extend(line(row) for row in rows)
        return row_lines(rows) + late

    def assert_whys(self, desk, plan, slack, events, told_rows):
        whys = whys_by_words(plan, slack, events)
        for row in whys:
            self.assert_said(desk, ("why " + row, whys[row] if row in told_rows else ["no row"]))
        self.assertLessEqual(set(told_rows), set(whys))


if __name__ == "__main__":
    unittest.main()
