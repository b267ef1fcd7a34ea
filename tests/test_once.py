import itertools
import unittest

from brooktally import errors
from brooktally.flow import Flow
from brooktally.once import items_of, on_time, told_once
from samples import (BUYS, PLANS, SALES, chances, items_by_words, no_numbers, on_time_by_words, rows_by_words,
                     some_events)

BILLION = 1000000000
EVENTS = [(5, "buy", "ann", 3), (7, "sell", "ann", 1), (5, "buy", "bob", -4), (12, "buy", "ann", 8), (3, "sell", "ann", 1)]


class ItemsTest(unittest.TestCase):
    def test_take(self):
        self.assertEqual(items_of([BUYS, SALES], "buys", EVENTS), [(5, "ann", 3), (5, "bob", -4), (12, "ann", 8)])
        self.assertEqual(items_of([BUYS, SALES], "sales", EVENTS), [(3, "ann", 1), (7, "ann", 1)])
        self.assertEqual(items_of([("take", "none", "other")], "none", EVENTS), [])

    def test_only(self):
        for low, high, wanted in ((3, 8, [(5, "ann", 3), (12, "ann", 8)]), (-4, 3, [(5, "ann", 3), (5, "bob", -4)]),
                                  (4, 7, []), (-3, 2, [])):
            self.assertEqual(items_of([BUYS, ("only", "some", "buys", low, high)], "some", EVENTS), wanted)

    def test_turn(self):
        self.assertEqual(items_of([BUYS, ("turn", "back", "buys", -2, 1)], "back", EVENTS),
                         [(5, "ann", -5), (5, "bob", 9), (12, "ann", -15)])

    def test_both(self):
        self.assertEqual(items_of([BUYS, SALES, ("both", "all", "sales", "buys")], "all", EVENTS),
                         [(3, "ann", 1), (5, "ann", 3), (5, "bob", -4), (7, "ann", 1), (12, "ann", 8)])
        self.assertEqual(items_of([SALES, ("both", "all", "sales", "sales")], "all", EVENTS),
                         [(3, "ann", 1), (3, "ann", 1), (7, "ann", 1), (7, "ann", 1)])

    def test_join(self):
        plan = [BUYS, SALES, ("join", "met", "buys", "sales", 2)]
        self.assertEqual(items_of(plan, "met", EVENTS), [(5, "ann", 2), (7, "ann", 2)])
        plan = [BUYS, SALES, ("join", "met", "sales", "buys", 5)]
        self.assertEqual(items_of(plan, "met", EVENTS), [(5, "ann", -2), (7, "ann", -2), (12, "ann", -7)])
        plan = [SALES, ("join", "self", "sales", "sales", 3)]
        self.assertEqual(items_of(plan, "self", EVENTS), [(3, "ann", 0), (7, "ann", 0)])
        plan = [SALES, ("join", "self", "sales", "sales", 4)]
        self.assertEqual(items_of(plan, "self", EVENTS), [(3, "ann", 0), (7, "ann", 0), (7, "ann", 0), (7, "ann", 0)])

    def test_amounts_beyond_all_bounds(self):
        plan = [("take", "aa", "buy")]
        for number in range(14):
            plan.append(("turn", "a" + chr(ord("b") + number), "a" + chr(ord("a") + number), -9, BILLION))
        plan.append(("join", "z", plan[-1][1], "aa", 5))
        events = [(1, "buy", "ann", BILLION), (3, "buy", "ann", -BILLION)]
        amounts = {}
        for event in events:
            amount = event[3]
            for number in range(14):
                amount = amount * -9 + BILLION
            amounts[event[0]] = amount
        self.assertTrue(all(abs(amount) > 10 ** 18 for amount in amounts.values()))
        self.assertEqual(items_of(plan, plan[-2][1], events), [(time, "ann", amounts[time]) for time in (1, 3)])
        self.assertEqual(items_of(plan, "z", events), sorted(
            (max(one, event[0]), "ann", amounts[one] - event[3]) for one in (1, 3) for event in events))
        plan.append(("gap", "all", "z", "sum", 5))
        self.assertEqual(told_once(plan, events), rows_by_words(plan, events))

    def test_each_sort_of_stream(self):
        for plan in PLANS:
            for chance in chances(60, 5):
                events = some_events(chance, 15, 25)
                before = (list(plan), list(events))
                for step in plan:
                    if step[0] not in ("each", "gap"):
                        told = items_of(plan, step[1], events)
                        self.assertIs(type(told), list)
                        self.assertEqual(told, items_by_words(plan, step[1], events))
                        self.assertEqual(items_of(plan, step[1], list(reversed(events))), told)
                self.assertEqual((plan, events), before)

    def test_told_lists_are_the_askers_own(self):
        items_of([BUYS], "buys", EVENTS).clear()
        self.assertEqual(items_of([BUYS], "buys", EVENTS), [(5, "ann", 3), (5, "bob", -4), (12, "ann", 8)])


class ToldOnceTest(unittest.TestCase):
    def test_no_events_and_no_steps(self):
        for plan in PLANS:
            self.assertEqual(told_once(plan, []), [])
        self.assertEqual(told_once([], EVENTS), [])
        self.assertEqual(told_once([BUYS, SALES], EVENTS), [])

    def test_windows_that_begin_below_nought(self):
        plan = [BUYS, ("each", "days", "buys", "sum", 10, 4)]
        self.assertEqual(told_once(plan, [(0, "buy", "ann", 3), (3, "buy", "ann", 4)]),
                         [("days", "ann", -8, 2, 3), ("days", "ann", -4, 6, 7), ("days", "ann", 0, 10, 7)])

    def test_gaps(self):
        plan = [BUYS, ("gap", "rest", "buys", "count", 4)]
        events = [(time, "buy", "ann", 1) for time in (9, 1, 5, 14, 14, 30)]
        self.assertEqual(told_once(plan, events), [("rest", "ann", 1, 14, 3), ("rest", "ann", 14, 19, 2), ("rest", "ann", 30, 35, 1)])
        plan = [BUYS, ("gap", "rest", "buys", "count", 0)]
        self.assertEqual(told_once(plan, [(4, "buy", "ann", 1), (5, "buy", "ann", 1), (4, "buy", "ann", 1)]),
                         [("rest", "ann", 4, 5, 2), ("rest", "ann", 5, 6, 1)])

    def test_the_order_of_the_rows(self):
        plan = [BUYS, ("gap", "z", "buys", "count", 9), ("each", "a", "buys", "least", 10, 10), ("each", "m", "buys", "sum", 5, 5)]
        events = [(0, "buy", "bob", 3), (0, "buy", "ann", 4), (12, "buy", "ann", 5)]
        self.assertEqual(told_once(plan, events), [
            ("m", "ann", 0, 5, 4), ("m", "bob", 0, 5, 3), ("z", "ann", 0, 10, 1), ("z", "bob", 0, 10, 1),
            ("a", "ann", 0, 10, 4), ("a", "bob", 0, 10, 3), ("m", "ann", 10, 15, 5), ("a", "ann", 10, 20, 5),
            ("z", "ann", 12, 22, 1)])

    def test_the_four_tallies(self):
        events = [(3, "buy", "ann", 5), (4, "buy", "ann", -7), (4, "buy", "ann", 5)]
        for sort, number in (("count", 3), ("sum", 3), ("least", -7), ("greatest", 5)):
            self.assertEqual(told_once([BUYS, ("each", "t", "buys", sort, 10, 10)], events), [("t", "ann", 0, 10, number)])
            self.assertEqual(told_once([BUYS, ("gap", "t", "buys", sort, 1)], events), [("t", "ann", 3, 6, number)])

    def test_against_the_words_in_any_order(self):
        for plan in PLANS:
            for chance in chances(61, 8):
                events = some_events(chance, 16, 30)
                before = (list(plan), list(events))
                wanted = rows_by_words(plan, events)
                self.assertEqual(told_once(plan, events), wanted)
                other = list(events)
                chance.shuffle(other)
                self.assertEqual(told_once(plan, other), wanted)
                self.assertEqual((plan, events), before)
        for order in itertools.permutations(EVENTS):
            self.assertEqual(told_once(PLANS[5], list(order)), rows_by_words(PLANS[5], EVENTS))

    def test_what_a_flow_tells_of_the_events_on_time(self):
        for plan in PLANS:
            for slack in (0, 1, 5, 20, BILLION):
                for chance in chances(62, 5):
                    events = some_events(chance, 30, 50)
                    flow = Flow(plan, slack)
                    told = []
                    for event in events:
                        told.extend(flow.come(event)[1])
                    told.extend(flow.finish())
                    self.assertEqual(told_once(plan, on_time(slack, events)[0]), told)

    def test_told_lists_are_the_askers_own(self):
        told_once(PLANS[2], EVENTS).clear()
        self.assertEqual(told_once(PLANS[2], EVENTS), rows_by_words(PLANS[2], EVENTS))


class OnTimeTest(unittest.TestCase):
    def test_against_the_words(self):
        for slack in (0, 1, 3, 10, BILLION):
            for chance in chances(63, 20):
                events = some_events(chance, chance.randrange(20), 25)
                before = list(events)
                told = on_time(slack, events)
                self.assertIs(type(told), tuple)
                self.assertEqual(told, on_time_by_words(slack, events))
                self.assertEqual(events, before)

    def test_none(self):
        self.assertEqual(on_time(0, []), ([], []))

    def test_no_slacks(self):
        for thing in no_numbers() + [-1, BILLION + 1]:
            for events in ([], EVENTS):
                with self.assertRaises(errors.BadSlack, msg=repr(thing)) as caught:
                    on_time(thing, events)
                self.assertIs(type(caught.exception), errors.BadSlack)

    def test_told_lists_are_the_askers_own(self):
        events = list(EVENTS)
        kept, late = on_time(0, events)
        kept.clear()
        late.clear()
        self.assertEqual(events, EVENTS)
        self.assertEqual(on_time(0, events), on_time_by_words(0, EVENTS))


if __name__ == "__main__":
    unittest.main()
