import itertools
import unittest

from brooktally import errors
from brooktally.clocks import Clock
from brooktally.flow import Flow, groups_of, joins_of
from brooktally.groups import Group
from brooktally.joins import Join
from samples import BUYS, PLANS, chances, no_numbers, on_time_by_words, rows_by_words, some_events

BILLION = 1000000000
DAYS = [BUYS, ("each", "days", "buys", "sum", 10, 10)]


def buy(time, key="ann", amount=1):
    return (time, "buy", key, amount)


def state(flow):
    return (flow.plan, flow.clock.now, flow.number,
            {place: [side.kept() for side in join.sides] for place, join in flow.joins.items()},
            {place: group.pieces() for place, group in flow.groups.items()})


def all_told(flow, events):
    told = []
    for event in events:
        told.extend(flow.come(event)[1])
    return told + flow.finish()


class MakingTest(unittest.TestCase):
    def test_joins_and_groups(self):
        for plan in PLANS:
            joins = joins_of(plan)
            groups = groups_of(plan)
            self.assertEqual(list(joins), [place for place, step in enumerate(plan) if step[0] == "join"])
            self.assertEqual(list(groups), [place for place, step in enumerate(plan) if step[0] in ("each", "gap")])
            for place, join in joins.items():
                self.assertIs(type(join), Join)
                self.assertEqual(join.within, plan[place][4])
                self.assertEqual([side.rows for side in join.sides], [{}, {}])
                self.assertIsNot(joins_of(plan)[place], join)
            for place, group in groups.items():
                self.assertIs(type(group), Group)
                self.assertEqual(group.rows, {})
                group.put((5, "ann", 1))
                self.assertEqual({row[0] for row in group.close(None)}, {plan[place][1]})
                self.assertIsNot(groups_of(plan)[place], group)

    def test_a_new_flow(self):
        for plan in PLANS:
            for slack in (0, 7, BILLION):
                flow = Flow(plan, slack)
                self.assertEqual(flow.plan, plan)
                self.assertIsNot(flow.plan, plan)
                self.assertIs(type(flow.clock), Clock)
                self.assertEqual((flow.clock.slack, flow.clock.now, flow.clock.count, flow.number), (slack, 0, 0, 0))
                self.assertEqual((list(flow.joins), list(flow.groups)), (list(joins_of(plan)), list(groups_of(plan))))
                self.assertEqual(flow.finish(), [])

    def test_no_slacks(self):
        for thing in no_numbers() + [-1, BILLION + 1]:
            with self.assertRaises(errors.BadSlack, msg=repr(thing)) as caught:
                Flow(DAYS, thing)
            self.assertIs(type(caught.exception), errors.BadSlack)

    def test_the_plan_may_be_changed_behind(self):
        plan = list(PLANS[5])
        flow = Flow(plan, 2)
        plan.clear()
        chance = chances(37, 1)[0]
        events = some_events(chance, 30, 30)
        self.assertEqual(all_told(flow, events), all_told(Flow(PLANS[5], 2), events))
        self.assertEqual(flow.plan, PLANS[5])


class ComeTest(unittest.TestCase):
    def test_late_by_one_tick_and_just_not_late(self):
        flow = Flow(DAYS, 5)
        self.assertEqual(flow.come(buy(20)), (True, []))
        before = state(flow)
        self.assertEqual(flow.come(buy(14)), (False, []))
        self.assertEqual(state(flow), before)
        self.assertEqual(flow.clock.count, 2)
        self.assertEqual(flow.come(buy(15)), (True, []))
        self.assertEqual((flow.clock.now, flow.clock.count), (15, 3))
        self.assertNotEqual(state(flow), before)

    def test_a_late_one_changes_nothing_but_the_count(self):
        for plan in PLANS:
            flow = Flow(plan, 3)
            for chance in chances(38, 3):
                for event in some_events(chance, 20, 40):
                    before = state(flow)
                    now = flow.clock.now
                    count = flow.clock.count
                    told = flow.come(event)
                    self.assertIs(type(told), tuple)
                    self.assertIs(type(told[1]), list)
                    self.assertIs(told[0], event[0] >= now)
                    self.assertEqual(flow.clock.count, count + 1)
                    if not told[0]:
                        self.assertEqual(told, (False, []))
                        self.assertEqual(state(flow), before)

    def test_rows_whose_end_is_just_the_clock(self):
        flow = Flow(DAYS, 2)
        flow.come(buy(3, "ann", 5))
        self.assertEqual(flow.come(buy(11, "bob", 4)), (True, []))
        self.assertEqual(flow.number, 0)
        self.assertEqual(flow.come(buy(12, "bob", 4)), (True, [("days", "ann", 0, 10, 5)]))
        self.assertEqual(flow.number, 1)
        self.assertEqual(flow.come(buy(21, "bob", 4)), (True, []))
        self.assertEqual(flow.come(buy(22, "bob", 4)), (True, [("days", "bob", 10, 20, 8)]))
        self.assertEqual(flow.number, 2)

    def test_gaps_whose_end_is_just_the_clock(self):
        flow = Flow([BUYS, ("gap", "rest", "buys", "count", 4)], 0)
        flow.come(buy(3))
        self.assertEqual(flow.come(buy(7)), (True, []))
        self.assertEqual(flow.come(buy(11, "bob")), (True, []))
        self.assertEqual(flow.come(buy(12, "bob")), (True, [("rest", "ann", 3, 12, 2)]))

    def test_the_event_itself_is_put_ahead_of_closing(self):
        flow = Flow([BUYS, ("each", "tick", "buys", "sum", 1, 1)], 0)
        self.assertEqual(flow.come(buy(5, "ann", 7)), (True, []))
        self.assertEqual(flow.come(buy(5, "ann", 2)), (True, []))
        self.assertEqual(flow.come(buy(6, "ann", 2)), (True, [("tick", "ann", 5, 6, 9)]))

    def test_the_order_among_tellers_and_keys(self):
        plan = [BUYS, ("each", "z", "buys", "sum", 10, 10), ("each", "a", "buys", "count", 10, 10),
                ("each", "m", "buys", "count", 5, 5), ("gap", "g", "buys", "count", 4)]
        flow = Flow(plan, 0)
        for event in (buy(5, "bob", 3), buy(5, "ann", 4), buy(1, "cid", 5), buy(6, "cid", 6)):
            flow.come(event)
        told = flow.come(buy(30))[1]
        self.assertEqual(told, [
            ("z", "ann", 0, 10, 4), ("z", "bob", 0, 10, 3), ("z", "cid", 0, 10, 6), ("a", "ann", 0, 10, 1),
            ("a", "bob", 0, 10, 1), ("a", "cid", 0, 10, 1), ("m", "ann", 5, 10, 1), ("m", "bob", 5, 10, 1),
            ("m", "cid", 5, 10, 1), ("g", "ann", 5, 10, 1), ("g", "bob", 5, 10, 1), ("g", "cid", 6, 11, 1)])
        self.assertEqual(flow.number, 12)

    def test_joins_drop_by_the_clock(self):
        plan = PLANS[5]
        flow = Flow(plan, 2)
        for event in (buy(5), buy(6), (7, "sell", "ann", 1)):
            flow.come(event)
        flow.come(buy(14, "bob"))
        self.assertEqual([side.kept() for side in flow.joins[2].sides], [[("ann", 6, 1), ("bob", 14, 1)], [("ann", 7, 1)]])
        flow.come(buy(16, "bob"))
        self.assertEqual([side.kept() for side in flow.joins[2].sides], [[("bob", 14, 1), ("bob", 16, 1)], []])

    def test_rows_lie_between_the_clocks(self):
        for plan in PLANS:
            place_of = {step[1]: place for place, step in enumerate(plan)}
            for slack in (0, 2, 9):
                for chance in chances(39, 4):
                    flow = Flow(plan, slack)
                    marks = []
                    for event in some_events(chance, 30, 50):
                        ahead = flow.clock.now
                        rows = flow.come(event)[1]
                        self.assertTrue(all(ahead < row[3] <= flow.clock.now for row in rows))
                        marks.extend((row[3], place_of[row[0]], row[1], row[2]) for row in rows)
                        self.assertEqual(flow.number, len(marks))
                        self.assertTrue(all(piece[2] > flow.clock.now for group in flow.groups.values()
                                            for piece in group.pieces()))
                    rows = flow.finish()
                    marks.extend((row[3], place_of[row[0]], row[1], row[2]) for row in rows)
                    self.assertEqual(marks, sorted(set(marks)))
                    self.assertEqual(flow.number, len(marks))

    def test_told_lists_are_the_askers_own(self):
        flow = Flow(DAYS, 0)
        flow.come(buy(3))
        told = flow.come(buy(13))
        told[1].clear()
        self.assertEqual(flow.number, 1)
        self.assertEqual(flow.come(buy(13)), (True, []))
        self.assertEqual(told, (True, []))


class FinishTest(unittest.TestCase):
    def test_what_is_open(self):
        flow = Flow(DAYS, 100)
        for event in (buy(25, "bob", 3), buy(3, "bob", 4), buy(4, "ann", 5)):
            flow.come(event)
        told = flow.finish()
        self.assertEqual(told, [("days", "ann", 0, 10, 5), ("days", "bob", 0, 10, 4), ("days", "bob", 20, 30, 3)])
        self.assertEqual(flow.number, 3)
        self.assertTrue(all(group.rows == {} for group in flow.groups.values()))
        told.clear()
        self.assertEqual(flow.finish(), [])
        self.assertEqual(flow.number, 3)

    def test_a_plan_without_tellers(self):
        for plan in ([], [BUYS], [BUYS, ("join", "self", "buys", "buys", 5)]):
            flow = Flow(plan, 0)
            self.assertEqual([flow.come(event) for event in (buy(3), buy(9), buy(8), buy(900))],
                             [(True, []), (True, []), (False, []), (True, [])])
            self.assertEqual((flow.finish(), flow.number, flow.clock.count), ([], 0, 4))

    def test_the_rows_of_the_events_on_time(self):
        for plan in PLANS:
            for slack in (0, 1, 4, 12, BILLION):
                for chance in chances(40, 4):
                    events = some_events(chance, chance.randrange(25), 40)
                    flow = Flow(plan, slack)
                    late = [place for place, event in enumerate(events) if event[0] < max(
                        [0] + [other[0] - slack for other in events[:place]])]
                    kept, places = on_time_by_words(slack, events)
                    self.assertEqual(late, places)
                    self.assertEqual(all_told(flow, events), rows_by_words(plan, kept))

    def test_all_orders_where_none_is_late(self):
        events = [buy(0, "ann", 3), buy(4, "ann", -1), (3, "sell", "ann", 2), buy(12, "bob", 5), (9, "sell", "bob", 5),
                  buy(4, "ann", -1)]
        for plan in PLANS:
            wanted = rows_by_words(plan, events)
            for order in itertools.permutations(events):
                for slack in (12, 40):
                    self.assertEqual(all_told(Flow(plan, slack), order), wanted)

    def test_some_orders_with_slacks_just_great_enough(self):
        for plan in PLANS:
            for chance in chances(41, 6):
                events = sorted(some_events(chance, 20, 40))
                wanted = rows_by_words(plan, events)
                for slack in (0, 3, 10):
                    order = sorted(events, key=lambda event: event[0] + chance.randrange(slack + 1))
                    kept, late = on_time_by_words(slack, order)
                    self.assertEqual(late, [])
                    self.assertEqual(all_told(Flow(plan, slack), order), wanted)


if __name__ == "__main__":
    unittest.main()
