import unittest
from unittest import mock

from brooktally import errors
from brooktally.answers import answer
from brooktally.events import shown
from brooktally.keepers import Keeper
from brooktally.notes import written
from samples import PLANS, chances, no_numbers, on_time_by_words, rows_by_words, some_events

BILLION = 1000000000
PLAN_LINES = ["buys take buy", "days each buys sum 10 5"]
EVENT_LINES = ["12 buy ann -5", "3 buy bob 4", "11 sell ann 1", "10 buy ann 7"]


def answer_by_words(plan, slack, events):
    kept, late = on_time_by_words(slack, events)
    rows = [" ".join(str(part) for part in row) for row in rows_by_words(plan, kept)]
    return rows + ["late " + str(place) for place in late]


class AnswerTest(unittest.TestCase):
    def test_rows_then_late_places(self):
        self.assertEqual(answer(PLAN_LINES, 2, 1, EVENT_LINES, []),
                         ["days ann 5 15 2", "days ann 10 20 2", "late 1"])
        self.assertEqual(answer(PLAN_LINES, 0, 1, EVENT_LINES, []),
                         ["days ann 5 15 -5", "days ann 10 20 -5", "late 1", "late 2", "late 3"])
        self.assertEqual(answer(PLAN_LINES, 100, 1, EVENT_LINES, []),
                         ["days bob -5 5 4", "days bob 0 10 4", "days ann 5 15 2", "days ann 10 20 2"])

    def test_nothing(self):
        self.assertEqual(answer([], 0, 1, [], []), [])
        self.assertEqual(answer(PLAN_LINES, 0, 1, [], []), [])
        self.assertEqual(answer([], 0, 1, EVENT_LINES, []), ["late 1", "late 2", "late 3"])
        self.assertEqual(answer([], 0, 1, [], [(0, None), (0, 3), (-1, None)]), [])

    def test_against_the_words_with_stops(self):
        for plan in PLANS:
            for chance in chances(64, 8):
                events = some_events(chance, chance.randrange(22), 35)
                slack = chance.choice([0, 3, 9, BILLION])
                every = chance.choice([1, 2, 3, 100])
                stops = [(chance.randrange(22), chance.choice([None, 0, 1, 2, 3, 5, 1000])) for number in range(chance.randrange(8))]
                handed = (written(plan), [shown(event) for event in events], list(stops))
                told = answer(handed[0], slack, every, handed[1], handed[2])
                self.assertIs(type(told), list)
                self.assertEqual(told, answer_by_words(plan, slack, events))
                self.assertEqual(handed, (written(plan), [shown(event) for event in events], stops))

    def test_stops_behind_each_event(self):
        chance = chances(65, 1)[0]
        events = some_events(chance, 12, 30)
        lines = [shown(event) for event in events]
        wanted = answer_by_words(PLANS[5], 4, events)
        for every in (1, 2, 3, 100):
            for many in (None, 0, 1, 4, 1000):
                stops = [(place, many) for place in range(12)]
                self.assertEqual(answer(written(PLANS[5]), 4, every, lines, stops), wanted)
                self.assertEqual(answer(written(PLANS[5]), 4, every, lines, stops[::-1] + stops), wanted)
                for place in range(12):
                    self.assertEqual(answer(written(PLANS[5]), 4, every, lines, [(place, many)]), wanted)
                    self.assertEqual(answer(written(PLANS[5]), 4, every, lines, [(place, None), (place, many)]), wanted)


class Recording(Keeper):
    def __init__(self, plan, slack, every):
        Keeper.__init__(self, plan, slack, every)
        SAID.append(("made", plan, slack, every))

    def come(self, event):
        SAID.append(("come", event[0]))
        Keeper.come(self, event)

    def stop(self, many):
        SAID.append(("stop", many))
        Keeper.stop(self, many)

    def go_on(self):
        SAID.append("on")
        Keeper.go_on(self)


SAID = []


class StopsTest(unittest.TestCase):
    def test_the_stops_are_those_handed_in(self):
        # No stop changes the answer, so it is looked at what the keeper was told.
        SAID.clear()
        with mock.patch("brooktally.answers.Keeper", Recording):
            answer(["buys take buy"], 9, 2, ["5 buy a 1", "6 buy a 1", "7 buy a 1"], [(2, None), (1, 0), (1, 7), (9, 1), (0, 3)])
        self.assertEqual(SAID[:12], [("made", [("take", "buys", "buy")], 9, 2), ("come", 5), ("stop", 3), "on", ("come", 6),
                                     ("stop", 0), "on", ("stop", 7), "on", ("come", 7), ("stop", None), "on"])
        self.assertEqual([said for said in SAID[12:] if said != "on"], [])


class RefusedTest(unittest.TestCase):
    def assert_refused(self, error, place, plan_lines, slack, event_lines):
        handed = (list(plan_lines), list(event_lines), [(0, None)])
        with self.assertRaises(error) as caught:
            answer(handed[0], slack, 2, handed[1], handed[2])
        self.assertIs(type(caught.exception), error)
        if error in (errors.BadLine, errors.BadStep):
            self.assertEqual(caught.exception.place, place)
        self.assertEqual(handed, (list(plan_lines), list(event_lines), [(0, None)]))

    def test_in_the_order_told(self):
        bad_line = PLAN_LINES + ["odd"]
        bad_step = PLAN_LINES + ["buys take buy"]
        for slack in (5, -1, BILLION + 1, None, True, "5"):
            for event_lines in (EVENT_LINES, ["odd"] + EVENT_LINES, EVENT_LINES + ["odd"]):
                self.assert_refused(errors.BadLine, 2, bad_line, slack, event_lines)
                self.assert_refused(errors.BadLine, 3, bad_step + ["odd"], slack, event_lines)
                self.assert_refused(errors.BadStep, 2, bad_step, slack, event_lines)
                if slack != 5:
                    self.assert_refused(errors.BadSlack, None, PLAN_LINES, slack, event_lines)
        self.assert_refused(errors.BadEvent, None, PLAN_LINES, 5, EVENT_LINES + ["odd"])

    def test_no_slacks(self):
        for thing in no_numbers():
            self.assert_refused(errors.BadSlack, None, PLAN_LINES, thing, [])
            self.assert_refused(errors.BadSlack, None, [], thing, ["odd"])

    def test_too_many_steps(self):
        lines = ["a" + letter + " take buy" for letter in "abcdefghijklmnopqrstuvwxyz"] + ["bb take buy"] * 5
        self.assert_refused(errors.BadStep, None, lines, -1, ["odd"])

    def test_lines_that_write_no_event(self):
        for line in ("", "12 buy ann", "12 buy ann -5 1", "12  buy ann -5", " 12 buy ann -5", "12 buy ann -5 ", "012 buy ann -5",
                     "-1 buy ann -5", "1000000001 buy ann 1", "12 Buy ann 5", "12 buy ann 1000000001", "12 buy ann -0"):
            for place in range(5):
                self.assert_refused(errors.BadEvent, None, PLAN_LINES, 5, EVENT_LINES[:place] + [line] + EVENT_LINES[place:])
            self.assert_refused(errors.BadEvent, None, [], 5, [line])


if __name__ == "__main__":
    unittest.main()
