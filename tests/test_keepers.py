import unittest

from brooktally import errors
from brooktally.flow import Flow
from brooktally.keepers import Keeper
from brooktally.packs import packed
from brooktally.shelves import Shelf
from samples import BUYS, PLANS, chances, no_numbers, on_time_by_words, rows_by_words, some_events

BILLION = 1000000000
DAYS = [BUYS, ("each", "days", "buys", "sum", 10, 10)]
PLAN = PLANS[5]
EVERIES = (1, 2, 3, 100)


def events_of(seed, many=14):
    return some_events(chances(seed, 1)[0], many, 30)


def outcome_by_words(plan, slack, events):
    kept, late = on_time_by_words(slack, events)
    return (rows_by_words(plan, kept), late)


def keep_behind(plan, slack, events):
    flow = Flow(plan, slack)
    for event in events:
        flow.come(event)
    return packed(flow)


class KeepsTest(unittest.TestCase):
    def test_a_new_one(self):
        keeper = Keeper(PLAN, 5, 2)
        self.assertIs(type(keeper.shelf), Shelf)
        self.assertIs(type(keeper.flow), Flow)
        self.assertEqual((keeper.shelf.slots, keeper.log, keeper.flow.plan, keeper.flow.clock.slack),
                         ([[], []], [], PLAN, 5))
        self.assertEqual(keeper.outcome(), ([], []))

    def test_no_slacks(self):
        for thing in no_numbers() + [-1, BILLION + 1]:
            with self.assertRaises(errors.BadSlack, msg=repr(thing)) as caught:
                Keeper(PLAN, thing, 2)
            self.assertIs(type(caught.exception), errors.BadSlack)

    def test_keeps_behind_each_so_many_events(self):
        for plan in (DAYS, PLAN):
            for every in EVERIES:
                for slack in (0, 6):
                    events = events_of(75)
                    keeper = Keeper(plan, slack, every)
                    slots = [[], []]
                    for number, event in enumerate(events, start=1):
                        self.assertIsNone(keeper.come(event))
                        if number % every == 0:
                            slots[number // every % 2] = keep_behind(plan, slack, events[:number])
                        self.assertEqual(keeper.shelf.slots, slots)
                        self.assertEqual(keeper.log, events[:number])
                    self.assertTrue(slack or on_time_by_words(slack, events)[1])

    def test_a_keep_behind_a_late_event(self):
        keeper = Keeper(DAYS, 0, 2)
        keeper.come((9, "buy", "ann", 1))
        keeper.come((8, "buy", "ann", 1))
        self.assertEqual(keeper.shelf.slots, [[], ["clock 9 2 0", "piece 1 ann 0 10 1 1 1 1", "end 2"]])
        self.assertEqual(keeper.outcome(), ([], [1]))

    def test_rows_are_told_ahead_of_the_keep(self):
        keeper = Keeper(DAYS, 0, 1)
        keeper.come((9, "buy", "ann", 1))
        keeper.come((10, "buy", "ann", 1))
        self.assertEqual(keeper.shelf.slots[0][0], "clock 10 2 1")
        self.assertEqual(keeper.shelf.rows, [("days", "ann", 0, 10, 1)])

    def test_rows_and_late_places_event_by_event(self):
        for slack in (0, 4):
            events = events_of(76, 30)
            keeper = Keeper(PLAN, slack, 3)
            flow = Flow(PLAN, slack)
            rows = []
            late = []
            for place, event in enumerate(events):
                keeper.come(event)
                told = flow.come(event)
                rows.extend(told[1])
                late.extend([] if told[0] else [place])
                self.assertEqual(keeper.outcome(), (rows, late))
            self.assertIsNone(keeper.finish())
            self.assertEqual(keeper.outcome(), (rows + flow.finish(), late))

    def test_what_was_handed_in_may_be_changed_behind(self):
        plan = list(PLAN)
        keeper = Keeper(plan, 3, 2)
        plan.clear()
        events = events_of(77)
        for event in events:
            keeper.come(event)
            keeper.stop(None)
            keeper.go_on()
        keeper.finish()
        self.assertEqual(keeper.outcome(), outcome_by_words(PLAN, 3, events))

    def test_outcomes_lists_are_ones_own(self):
        keeper = Keeper(DAYS, 0, 2)
        for time in (9, 3, 20):
            keeper.come((time, "buy", "ann", 1))
        told = keeper.outcome()
        self.assertIs(type(told), tuple)
        self.assertEqual(told, ([("days", "ann", 0, 10, 1)], [1]))
        told[0].clear()
        told[1].append(9)
        self.assertEqual(keeper.outcome(), ([("days", "ann", 0, 10, 1)], [1]))
        told = keeper.outcome()
        keeper.come((2, "buy", "ann", 1))
        keeper.finish()
        self.assertEqual(told, ([("days", "ann", 0, 10, 1)], [1]))


class StopsTest(unittest.TestCase):
    def test_stopped(self):
        keeper = Keeper(DAYS, 0, 2)
        keeper.come((3, "buy", "ann", 1))
        slots = list(keeper.shelf.slots)
        self.assertIsNone(keeper.stop(None))
        self.assertIsNone(keeper.flow)
        self.assertIsNone(keeper.come((13, "buy", "ann", 2)))
        self.assertEqual((keeper.log, keeper.shelf.slots, keeper.outcome()),
                         ([(3, "buy", "ann", 1), (13, "buy", "ann", 2)], slots, ([], [])))
        self.assertIsNone(keeper.go_on())
        self.assertIs(type(keeper.flow), Flow)
        self.assertEqual(keeper.outcome(), ([("days", "ann", 0, 10, 1)], []))
        self.assertEqual(keeper.shelf.slots[1][0], "clock 13 2 1")

    def torn_slots(self, every, number, many, plan=PLAN, slack=4):
        events = events_of(78)[:number]
        keeper = Keeper(plan, slack, every)
        for event in events:
            keeper.come(event)
        before = [list(lines) for lines in keeper.shelf.slots]
        keeper.stop(many)
        return before, keeper.shelf.slots, keep_behind(plan, slack, events)

    def test_torn_where_a_keep_was_due(self):
        for every in (1, 2, 3):
            for number in (every, 2 * every, 3 * every):
                length = len(self.torn_slots(every, number, None)[2])
                for many in range(length + 3):
                    before, behind, lines = self.torn_slots(every, number, many)
                    slot = number // every % 2
                    self.assertEqual(before[slot], lines)
                    self.assertEqual(behind[slot], lines[:many])
                    self.assertEqual(behind[1 - slot], before[1 - slot])

    def test_nothing_is_torn_where_none_was_due(self):
        for every, number in ((2, 0), (2, 1), (2, 3), (3, 4), (3, 5), (100, 7), (100, 0), (1, 0)):
            for many in (None, 0, 1, 5, 1000):
                before, behind, lines = self.torn_slots(every, number, many)
                self.assertEqual(behind, before)

    def test_many_none_tears_nothing(self):
        for every in (1, 2, 3):
            before, behind, lines = self.torn_slots(every, 6, None)
            self.assertEqual(behind, before)

    def test_a_stop_while_it_is_stopped(self):
        for many in (None, 0, 1, 2):
            keeper = Keeper(DAYS, 0, 1)
            keeper.come((3, "buy", "ann", 1))
            keeper.stop(None)
            slots = [list(lines) for lines in keeper.shelf.slots]
            keeper.come((4, "buy", "ann", 1))
            keeper.stop(many)
            self.assertIsNone(keeper.flow)
            self.assertEqual(keeper.shelf.slots, slots)

    def test_going_on_while_it_is_going(self):
        keeper = Keeper(DAYS, 0, 2)
        keeper.come((3, "buy", "ann", 1))
        flow = keeper.flow
        self.assertIsNone(keeper.go_on())
        self.assertIs(keeper.flow, flow)
        self.assertEqual(packed(keeper.flow), ["clock 3 1 0", "piece 1 ann 0 10 1 1 1 1", "end 2"])

    def test_going_on_takes_the_last_keep(self):
        keeper = Keeper(DAYS, 100, 3)
        for time in range(8):
            keeper.come((time, "buy", "ann", 1))
        keeper.stop(None)
        # The log ahead of the keep is not read again, so what stands there makes no difference.
        for place in range(6):
            keeper.log[place] = (9, "buy", "bob", 9)
        keeper.go_on()
        self.assertEqual(packed(keeper.flow), ["clock 0 8 0", "piece 1 ann 0 10 8 8 1 1", "end 2"])

    def test_going_on_behind_a_torn_keep_takes_the_one_ahead(self):
        keeper = Keeper(DAYS, 100, 3)
        for time in range(6):
            keeper.come((time, "buy", "ann", 1))
        keeper.stop(1)
        keeper.log[2] = (9, "buy", "bob", 9)
        keeper.log[5] = (9, "buy", "bob", 9)
        keeper.go_on()
        self.assertEqual(packed(keeper.flow), ["clock 0 6 0", "piece 1 ann 0 10 5 5 1 1", "piece 1 bob 0 10 1 9 9 9", "end 3"])
        self.assertEqual(keeper.shelf.slots[0], packed(keeper.flow))

    def test_a_stop_right_behind_going_on(self):
        # The last event that was read is still the one behind which the keep was due.
        keeper = Keeper(DAYS, 100, 2)
        for time in range(4):
            keeper.come((time, "buy", "ann", 1))
        keeper.stop(None)
        keeper.go_on()
        keeper.stop(1)
        self.assertEqual([len(lines) for lines in keeper.shelf.slots], [1, 3])
        keeper.finish()
        self.assertEqual(keeper.outcome(), ([("days", "ann", 0, 10, 4)], []))

    def test_a_stop_right_behind_going_on_from_somebody_elses_keep(self):
        events = [(time, "buy", "ann", 1) for time in range(6)]
        for number, slots in ((5, [3, 3]), (6, [3, 1])):
            keeper = Keeper(DAYS, 100, 2)
            for event in events[:4]:
                keeper.come(event)
            keeper.stop(None)
            for event in events[4:number]:
                keeper.come(event)
            keeper.shelf.write(0, keep_behind(DAYS, 100, events[:number]))
            keeper.go_on()
            self.assertEqual(keeper.flow.clock.count, number)
            keeper.stop(1)
            self.assertEqual([len(lines) for lines in keeper.shelf.slots], slots)
            keeper.finish()
            self.assertEqual(keeper.outcome(), ([("days", "ann", 0, 10, number)], []))

    def test_nothing_is_due_ahead_of_all_events(self):
        keeper = Keeper(DAYS, 0, 1)
        keeper.shelf.write(0, ["torn"])
        for number in range(2):
            keeper.stop(0)
            self.assertEqual(keeper.shelf.slots, [["torn"], []])
            keeper.go_on()

    def test_behind_finishing(self):
        for every in EVERIES:
            for slack in (0, 5, BILLION):
                events = events_of(79)
                wanted = outcome_by_words(PLAN, slack, events)
                for steps in (["finish"], ["stop"], ["go_on"], ["stop", "go_on"], ["stop", "stop", "finish"], ["tear", "go_on"],
                              ["tear", "finish"], ["stop", "go_on", "tear", "go_on", "finish", "finish"]):
                    keeper = Keeper(PLAN, slack, every)
                    for event in events:
                        keeper.come(event)
                    keeper.finish()
                    for step in steps:
                        if step in ("stop", "tear"):
                            keeper.stop(None if step == "stop" else 2)
                        else:
                            self.assertIsNone(keeper.go_on() if step == "go_on" else keeper.finish())
                        self.assertEqual(keeper.outcome(), wanted)

    def test_a_stop_behind_finishing_tears_the_keep_ahead_of_it(self):
        keeper = Keeper(DAYS, 100, 2)
        for time in range(4):
            keeper.come((time, "buy", "ann", 1))
        lines = list(keeper.shelf.slots[0])
        keeper.finish()
        self.assertEqual(keeper.shelf.slots[0], lines)
        keeper.stop(2)
        self.assertEqual(keeper.shelf.slots[0], lines[:2])

    def test_finishing_while_it_is_stopped(self):
        keeper = Keeper(DAYS, 5, 2)
        for time in (3, 14, 2):
            keeper.come((time, "buy", "ann", 1))
        keeper.stop(0)
        keeper.come((15, "buy", "ann", 1))
        keeper.finish()
        self.assertIsNotNone(keeper.flow)
        self.assertEqual(keeper.outcome(), ([("days", "ann", 0, 10, 1), ("days", "ann", 10, 20, 2)], [2]))

    def test_no_events(self):
        for plan in PLANS:
            keeper = Keeper(plan, 5, 1)
            keeper.stop(0)
            keeper.stop(None)
            keeper.go_on()
            keeper.finish()
            self.assertEqual((keeper.outcome(), keeper.shelf.slots), (([], []), [[], []]))


class OutcomeTest(unittest.TestCase):
    def test_a_stop_behind_each_event(self):
        for every in EVERIES:
            for slack in (0, 6, BILLION):
                events = events_of(80)
                wanted = outcome_by_words(PLAN, slack, events)
                for at in range(len(events) + 1):
                    for many in (None, 0, 1, 2, 5, 1000):
                        keeper = Keeper(PLAN, slack, every)
                        for event in events[:at]:
                            keeper.come(event)
                        keeper.stop(many)
                        if many != 2:
                            keeper.go_on()
                        for event in events[at:]:
                            keeper.come(event)
                        keeper.finish()
                        self.assertEqual(keeper.outcome(), wanted, (every, slack, at, many))

    def test_whatever_stops_there_were(self):
        for plan in PLANS:
            for chance in chances(81, 10):
                every = chance.choice(EVERIES)
                slack = chance.choice([0, 2, 7, BILLION])
                events = some_events(chance, 25, 40)
                keeper = Keeper(plan, slack, every)
                for event in events:
                    for number in range(chance.choice([0, 0, 1, 2])):
                        keeper.stop(chance.choice([None, 0, 1, 2, 3, 4, 6, 9, 1000]))
                        if chance.random() < 0.7:
                            keeper.go_on()
                    keeper.come(event)
                keeper.finish()
                self.assertEqual(keeper.outcome(), outcome_by_words(plan, slack, events))
                self.assertEqual(keeper.log, events)

    def test_a_shelf_that_somebody_else_filled(self):
        events = events_of(82, 16)
        for slack in (0, 6):
            wanted = outcome_by_words(PLAN, slack, events)
            for one in (0, 3, 7, 10):
                for other in (0, 5, 10, None):
                    keeper = Keeper(PLAN, slack, 4)
                    for event in events[:10]:
                        keeper.come(event)
                    keeper.stop(None)
                    keeper.shelf.write(0, keep_behind(PLAN, slack, events[:one]))
                    keeper.shelf.write(1, [] if other is None else keep_behind(PLAN, slack, events[:other]))
                    keeper.go_on()
                    self.assertEqual(keeper.flow.clock.count, 10)
                    for event in events[10:]:
                        keeper.come(event)
                    keeper.finish()
                    self.assertEqual(keeper.outcome(), wanted)

    def test_slots_that_somebody_else_tore(self):
        events = events_of(83, 16)
        wanted = outcome_by_words(PLAN, 6, events)
        for one in (0, 1, 3, None):
            for other in (0, 2, None):
                keeper = Keeper(PLAN, 6, 2)
                for event in events:
                    keeper.come(event)
                keeper.stop(None)
                for slot, many in ((0, one), (1, other)):
                    if many is not None:
                        keeper.shelf.slots[slot] = keeper.shelf.slots[slot][:many]
                keeper.finish()
                self.assertEqual(keeper.outcome(), wanted)

    def test_rows_that_somebody_else_told_otherwise(self):
        keeper = Keeper(DAYS, 0, 100)
        keeper.come((3, "buy", "ann", 1))
        keeper.stop(None)
        keeper.shelf.tell(0, ("days", "ann", 0, 10, 2))
        keeper.come((30, "buy", "ann", 1))
        with self.assertRaises(errors.Broken):
            keeper.go_on()


if __name__ == "__main__":
    unittest.main()
