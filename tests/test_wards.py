import unittest

from brooktally import errors
from brooktally.clocks import Clock
from brooktally.flow import Flow
from brooktally.handkeeps import hand_packed
from brooktally.hands import Hand
from brooktally.wards import Part, Ward
from samples import PLANS, chances, no_numbers, some_events

BILLION = 1000000000
PLAN = PLANS[5]
KEYS = ("a", "b", "c", "d", "ann", "bob")
TICK = [("take", "buys", "buy"), ("each", "tick", "buys", "sum", 1, 1)]


def buy(time, key, amount=1):
    return (time, "buy", key, amount)


def flow_told(plan, slack, events):
    """The rows that a flow tells by each event, one list for each, and the rows of finishing."""
    flow = Flow(plan, slack)
    return [flow.come(event)[1] for event in events], flow.finish()


def log_by_words(slack, events):
    clock = Clock(slack)
    return [(event, clock.now) if clock.admit(event[0]) else None for event in events]


def hand_behind(plan, log, at, many):
    hand = Hand(plan)
    for entry in log:
        if entry is not None:
            event, now = entry
            if sum(ord(letter) - ord("a") for letter in event[2]) % many == at:
                hand.bring(event)
            hand.forget(now)
            hand.over(now)
    return hand


def keep_behind(plan, log, at, many):
    return hand_packed(hand_behind(plan, log, at, many), len(log))


class Watched(list):
    """A list that remembers which of its places were read."""

    def __init__(self, things):
        list.__init__(self, things)
        self.read = []

    def __getitem__(self, place):
        self.read.append(place)
        return list.__getitem__(self, place)


class Model:
    """A ward beside what the document says of it."""

    def __init__(self, test, plan, slack, many, every, events):
        self.test = test
        self.plan, self.many, self.every, self.events = plan, many, every, events
        self.ward = Ward(plan, slack, many, every)
        self.rows, self.rest = flow_told(plan, slack, events)
        self.log = log_by_words(slack, events)
        self.told = []
        self.come = 0
        self.lost = {}
        self.slots = [[[], []] for at in range(many)]
        self.number = 0

    def keep(self, at, number):
        return keep_behind(self.plan, self.log[:number], at, self.many)

    def write(self, at, low, high):
        for number in range(low + 1, high + 1):
            if number % self.every == 0:
                self.slots[at][number // self.every % 2] = self.keep(at, number)

    def event(self):
        event = self.events[self.come]
        told = self.ward.come(event)
        self.test.assertIs(type(told), tuple)
        self.test.assertIs(told[0], self.log[self.come] is not None)
        self.come += 1
        for at in range(self.many):
            if at not in self.lost:
                self.write(at, self.come - 1, self.come)
        self.check(told[1], True)

    def lose(self, at, many):
        if at not in self.lost:
            self.lost[at] = self.come
            if many is not None and self.come and self.come % self.every == 0:
                self.slots[at][self.come // self.every % 2] = self.keep(at, self.come)[:many]
        self.test.assertIsNone(self.ward.lose(at, many))
        self.check([], False)

    def back(self, at):
        if at in self.lost:
            whole = [number for number in range(1, self.come + 1) if self.keep(at, number) in self.slots[at]
                     and number % self.every == 0]
            self.write(at, max(whole, default=0), self.come)
            self.lost.pop(at)
        self.check(self.ward.back(at), True)

    def check(self, rows, telling):
        self.test.assertIs(type(rows), list)
        self.told.extend(rows)
        if telling:
            self.number = min(self.lost.values(), default=self.come)
        self.test.assertEqual(self.told, sum(self.rows[:self.number], []))
        self.test.assertEqual(self.ward.number, self.number)
        self.test.assertEqual(self.ward.log, self.log[:self.come])
        for at, part in enumerate(self.ward.parts):
            self.test.assertEqual(part.seen, self.lost.get(at, self.come))
            self.test.assertEqual(part.slots, self.slots[at])
            if at in self.lost:
                self.test.assertIsNone(part.hand)
            else:
                self.test.assertEqual(hand_packed(part.hand, self.come), self.keep(at, self.come))

    def finish(self):
        self.told.extend(self.ward.finish())
        self.test.assertEqual(self.told, sum(self.rows[:self.come], []) + self.rest)


class WardTest(unittest.TestCase):
    def test_a_new_one(self):
        for many in range(1, 9):
            ward = Ward(PLAN, 7, many, 2)
            self.assertIs(type(ward.clock), Clock)
            self.assertEqual((ward.clock.slack, ward.clock.now, ward.log, ward.number), (7, 0, [], 0))
            self.assertEqual([type(part) for part in ward.parts], [Part] * many)
            for part in ward.parts:
                self.assertIs(type(part.hand), Hand)
                self.assertEqual((part.hand.plan, part.slots, part.seen), (PLAN, [[], []], 0))
            self.assertEqual(ward.finish(), [])

    def test_a_part(self):
        part = Part(PLAN)
        self.assertIs(type(part.hand), Hand)
        self.assertEqual((part.hand.plan, part.slots, part.seen), (PLAN, [[], []], 0))
        self.assertIsNot(part.slots[0], part.slots[1])

    def test_no_slacks(self):
        for thing in no_numbers() + [-1, BILLION + 1]:
            with self.assertRaises(errors.BadSlack, msg=repr(thing)) as caught:
                Ward(PLAN, thing, 3, 2)
            self.assertIs(type(caught.exception), errors.BadSlack)

    def test_none_lost(self):
        for plan in PLANS:
            for many in range(1, 9):
                chance = chances(93, 1)[0]
                model = Model(self, plan, 4, many, 1 + many % 3, some_events(chance, 12, 30, keys=KEYS))
                for event in model.events:
                    model.event()
                model.finish()

    def test_whatever_is_lost(self):
        for plan in PLANS:
            for chance in chances(94, 14):
                many = chance.randrange(1, 9)
                slack = chance.choice([0, 3, 9])
                model = Model(self, plan, slack, many, chance.choice([1, 2, 3, 100]), some_events(chance, 14, 30, keys=KEYS))
                while model.come < len(model.events):
                    what = chance.random()
                    if what < 0.3:
                        model.lose(chance.randrange(many), chance.choice([None, 0, 1, 2, 3, 5, 1000]))
                    elif what < 0.55:
                        model.back(chance.randrange(many))
                    else:
                        model.event()
                model.finish()

    def test_the_log(self):
        ward = Ward(PLAN, 2, 2, 1)
        for event in (buy(10, "ann"), buy(7, "ann"), buy(8, "bob"), buy(20, "ann")):
            ward.come(event)
        self.assertEqual(ward.log, [(buy(10, "ann"), 8), None, (buy(8, "bob"), 8), (buy(20, "ann"), 18)])
        self.assertEqual((ward.number, [part.seen for part in ward.parts]), (4, [4, 4]))

    def test_a_late_event_is_counted(self):
        ward = Ward(TICK, 0, 2, 2)
        ward.come(buy(10, "a"))
        self.assertEqual(ward.come(buy(9, "a")), (False, []))
        self.assertEqual([part.seen for part in ward.parts], [2, 2])
        self.assertEqual(ward.parts[0].slots, [[], ["hand 2", "piece 1 a 10 11 1 1 1 1", "end 2"]])
        self.assertEqual(ward.parts[1].slots, [[], ["hand 2", "end 1"]])

    def test_rows_wait_for_the_lost(self):
        ward = Ward(TICK, 0, 2, 100)
        ward.come(buy(1, "a"))
        ward.lose(1, None)
        self.assertEqual(ward.come(buy(2, "b")), (True, []))
        self.assertEqual(ward.come(buy(3, "a")), (True, []))
        self.assertEqual(ward.come(buy(3, "b")), (True, []))
        self.assertEqual((ward.number, ward.parts[1].seen), (1, 1))
        self.assertEqual(ward.back(0), [])
        self.assertEqual(ward.back(1), [("tick", "a", 1, 2, 1), ("tick", "b", 2, 3, 1)])
        self.assertEqual((ward.number, ward.parts[1].seen), (4, 4))
        self.assertEqual(ward.come(buy(4, "a")), (True, [("tick", "a", 3, 4, 1), ("tick", "b", 3, 4, 1)]))
        self.assertEqual(ward.finish(), [("tick", "a", 4, 5, 1)])

    def test_several_lost_at_once(self):
        ward = Ward(TICK, 0, 3, 2)
        ward.come(buy(1, "a"))
        ward.lose(0, None)
        ward.come(buy(2, "b"))
        ward.lose(1, 0)
        ward.come(buy(3, "c"))
        self.assertEqual(ward.number, 1)
        self.assertEqual(ward.back(0), [("tick", "a", 1, 2, 1)])
        self.assertEqual(ward.number, 2)
        self.assertEqual(ward.back(1), [("tick", "b", 2, 3, 1)])
        self.assertEqual(ward.number, 3)
        self.assertEqual(ward.finish(), [("tick", "c", 3, 4, 1)])

    def test_no_row_is_told_twice(self):
        # The hand goes on from its beginning, where it told rows ahead of the loss.
        ward = Ward(TICK, 0, 1, 100)
        told = []
        for time in range(5):
            told.extend(ward.come(buy(time, "a"))[1])
        for number in range(3):
            ward.lose(0, None)
            self.assertEqual(ward.back(0), [])
        self.assertEqual(told + ward.finish(), [("tick", "a", time, time + 1, 1) for time in range(5)])

    def test_lost_twice_and_back_while_not_lost(self):
        ward = Ward(TICK, 0, 1, 1)
        ward.come(buy(1, "a"))
        hand = ward.parts[0].hand
        self.assertEqual(ward.back(0), [])
        self.assertIs(ward.parts[0].hand, hand)
        ward.lose(0, None)
        slots = [list(lines) for lines in ward.parts[0].slots]
        ward.come(buy(2, "a"))
        ward.lose(0, 0)
        self.assertEqual(ward.parts[0].slots, slots)
        self.assertEqual((ward.parts[0].hand, ward.parts[0].seen), (None, 1))
        self.assertEqual(ward.back(0), [("tick", "a", 1, 2, 1)])

    def test_torn_keeps(self):
        for many in (0, 1, 2, 3, 100):
            ward = Ward(TICK, 100, 1, 2)
            for time in range(4):
                ward.come(buy(time, "a"))
            lines = list(ward.parts[0].slots[0])
            other = list(ward.parts[0].slots[1])
            self.assertEqual((lines[0], other[0]), ("hand 4", "hand 2"))
            ward.lose(0, many)
            self.assertEqual(ward.parts[0].slots, [lines[:many], other])
            ward.log[0] = "never read again"
            ward.log[1] = "never read again"
            if many >= len(lines):
                ward.log[2] = "never read again"
                ward.log[3] = "never read again"
            self.assertEqual(ward.back(0), [])
            self.assertEqual(ward.parts[0].slots, [lines, other])
            self.assertEqual(ward.finish(), [("tick", "a", time, time + 1, 1) for time in range(4)])

    def test_where_no_keep_was_due(self):
        for number, every in ((0, 1), (1, 2), (3, 2), (4, 3), (5, 100)):
            for many in (None, 0, 1, 100):
                ward = Ward(TICK, 100, 2, every)
                for time in range(number):
                    ward.come(buy(time, "a"))
                slots = [[list(lines) for lines in part.slots] for part in ward.parts]
                ward.lose(0, many)
                self.assertEqual([part.slots for part in ward.parts], slots)

    def test_going_on_from_the_keep_behind_the_most_events(self):
        for number in range(1, 12):
            for every in (1, 2, 3):
                ward = Ward(TICK, 100, 2, every)
                for time in range(number):
                    ward.come(buy(time, "a"))
                ward.lose(0, None)
                for time in range(number, 12):
                    ward.come(buy(time, "a"))
                ward.log = Watched(ward.log)
                ward.back(0)
                self.assertEqual(sorted(set(ward.log.read)), list(range(number // every * every, 12)))
                self.assertEqual(ward.finish(), [("tick", "a", time, time + 1, 1) for time in range(12)])

    def test_like_counts_take_slot_nought(self):
        ward = Ward(TICK, 100, 1, 100)
        for time in range(3):
            ward.come(buy(time, "a"))
        for slots, key in ((["x", "y"], "x"), (["y", "x"], "y")):
            ward.lose(0, None)
            ward.parts[0].slots = [["hand 3", "piece 1 " + letter + " 0 1 1 1 1 1", "end 2"] for letter in slots]
            ward.back(0)
            self.assertEqual(hand_packed(ward.parts[0].hand, 3), ["hand 3", "piece 1 " + key + " 0 1 1 1 1 1", "end 2"])

    def test_finish_with_hands_lost(self):
        for lost in ([], [0], [1], [0, 1, 2]):
            ward = Ward(PLAN, 3, 3, 2)
            events = some_events(chances(95, 1)[0], 20, 40, keys=KEYS)
            told = []
            for event in events[:12]:
                told.extend(ward.come(event)[1])
            for at in lost:
                ward.lose(at, 1)
            for event in events[12:]:
                told.extend(ward.come(event)[1])
            rows, rest = flow_told(PLAN, 3, events)
            self.assertEqual(told + ward.finish(), sum(rows, []) + rest)
            self.assertTrue(all(part.hand is not None for part in ward.parts))

    def test_the_plan_may_be_changed_behind(self):
        plan = list(PLAN)
        ward = Ward(plan, 30, 3, 2)
        plan.clear()
        events = some_events(chances(96, 1)[0], 20, 40, keys=KEYS)
        told = []
        for event in events:
            for at in range(3):
                ward.lose(at, None)
            told.extend(ward.come(event)[1])
            for at in range(3):
                told.extend(ward.back(at))
        rows, rest = flow_told(PLAN, 30, events)
        self.assertEqual(told + ward.finish(), sum(rows, []) + rest)

    def test_told_lists_are_the_askers_own(self):
        ward = Ward(TICK, 0, 1, 100)
        ward.come(buy(1, "a"))
        told = ward.come(buy(2, "a"))
        told[1].clear()
        ward.lose(0, None)
        ward.come(buy(3, "a"))
        told = ward.back(0)
        self.assertEqual(told, [("tick", "a", 2, 3, 1)])
        told.clear()
        self.assertEqual(ward.finish(), [("tick", "a", 3, 4, 1)])


if __name__ == "__main__":
    unittest.main()
