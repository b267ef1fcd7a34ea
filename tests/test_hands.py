import unittest

from brooktally.flow import Flow
from brooktally.hands import Hand
from samples import BUYS, PLANS, chances, some_events

PLAN = PLANS[5]
DAYS = [BUYS, ("each", "days", "buys", "sum", 10, 10)]


def memory(hand):
    return ({place: [side.rows for side in join.sides] for place, join in hand.joins.items()},
            {place: group.rows for place, group in hand.groups.items()})


def marks_of(plan, rows):
    places = {step[1]: place for place, step in enumerate(plan)}
    return [(row[3], places[row[0]], row[1], row[2], row) for row in rows]


def brought(plan, events):
    hand = Hand(plan)
    for event in events:
        hand.bring(event)
    return hand


def keys_of(hand):
    joins, groups = memory(hand)
    return ({key for sides in joins.values() for rows in sides for key in rows} | {key for rows in groups.values() for key in rows})


class BringTest(unittest.TestCase):
    def test_a_new_one(self):
        for plan in PLANS:
            hand = Hand(plan)
            flow = Flow(plan, 0)
            self.assertEqual(hand.plan, plan)
            self.assertIsNot(hand.plan, plan)
            self.assertEqual(memory(hand), memory(flow))
            self.assertEqual((hand.over(5), hand.over(None)), ([], []))
            self.assertEqual(hand.give_up("ann"), ([], []))

    def test_beside_a_flow(self):
        for plan in PLANS:
            for slack in (0, 3, 12):
                for chance in chances(70, 4):
                    hand = Hand(plan)
                    flow = Flow(plan, slack)
                    for event in some_events(chance, 30, 50):
                        told = flow.come(event)
                        if told[0]:
                            self.assertIsNone(hand.bring(event))
                            self.assertIsNone(hand.forget(flow.clock.now))
                            over = hand.over(flow.clock.now)
                            self.assertIs(type(over), list)
                            self.assertEqual(over, marks_of(plan, told[1]))
                        self.assertEqual(memory(hand), memory(flow))
                    self.assertEqual(hand.over(None), marks_of(plan, flow.finish()))
                    self.assertEqual(hand.over(None), [])

    def test_over_at_a_time(self):
        hand = brought(DAYS, [(3, "buy", "bob", 1), (4, "buy", "ann", 2), (14, "buy", "ann", 3)])
        self.assertEqual(hand.over(9), [])
        self.assertEqual(hand.over(10), [(10, 1, "ann", 0, ("days", "ann", 0, 10, 2)), (10, 1, "bob", 0, ("days", "bob", 0, 10, 1))])
        self.assertEqual(hand.over(10), [])
        self.assertEqual(memory(hand), ({}, {1: {"ann": [(10, 20, (1, 3, 3, 3))]}}))
        told = hand.over(None)
        self.assertEqual(told, [(20, 1, "ann", 10, ("days", "ann", 10, 20, 3))])
        told.clear()
        self.assertEqual((hand.over(None), memory(hand)), ([], ({}, {1: {}})))

    def test_over_rises_among_tellers(self):
        plan = [BUYS, ("each", "z", "buys", "sum", 10, 10), ("each", "a", "buys", "sum", 10, 10), ("each", "m", "buys", "sum", 5, 5)]
        hand = brought(plan, [(3, "buy", "bob", 1), (7, "buy", "ann", 2)])
        told = hand.over(None)
        self.assertEqual([mark[:4] for mark in told], [(5, 3, "bob", 0), (10, 1, "ann", 0), (10, 1, "bob", 0), (10, 2, "ann", 0),
                                                       (10, 2, "bob", 0), (10, 3, "ann", 5)])
        self.assertEqual(told, sorted(told))

    def test_forget(self):
        hand = brought(PLAN, [(5, "buy", "ann", 1), (6, "buy", "ann", 1), (7, "sell", "bob", 1)])
        groups = {place: dict(rows) for place, rows in memory(hand)[1].items()}
        hand.forget(12)
        self.assertEqual(memory(hand), ({2: [{"ann": [(6, 1)]}, {"bob": [(7, 1)]}]}, groups))
        hand.forget(13)
        self.assertEqual(memory(hand), ({2: [{}, {"bob": [(7, 1)]}]}, groups))
        hand.forget(14)
        self.assertEqual(memory(hand), ({2: [{}, {}]}, groups))

    def test_the_plan_may_be_changed_behind(self):
        plan = list(PLAN)
        hand = Hand(plan)
        plan.clear()
        hand.bring((5, "buy", "ann", 1))
        self.assertEqual(hand.plan, PLAN)
        self.assertEqual(hand.over(None), [(10, 5, "ann", 5, ("raw", "ann", 5, 10, 1))])


class GivingTest(unittest.TestCase):
    EVENTS = [(5, "buy", "ann", 4), (5, "buy", "ann", -4), (8, "sell", "ann", 1), (6, "buy", "bob", 2), (14, "sell", "ann", 9),
              (14, "sell", "ann", 9), (2, "buy", "ann", 1), (7, "sell", "bob", 3)]

    def test_what_is_given_up(self):
        hand = brought(PLAN, self.EVENTS)
        before = memory(brought(PLAN, self.EVENTS))
        parcel = hand.give_up("ann")
        self.assertIs(type(parcel), tuple)
        self.assertEqual([type(part) for part in parcel], [list, list])
        self.assertEqual(parcel[0], [(2, 0, 2, 1), (2, 0, 5, -4), (2, 0, 5, 4), (2, 1, 8, 1), (2, 1, 14, 9), (2, 1, 14, 9)])
        self.assertEqual(parcel[1], sorted((place,) + piece for place, rows in before[1].items() for piece in rows.get("ann", [])))
        self.assertEqual([part[0] for part in parcel[1]], [3, 3, 4, 5, 5])
        self.assertEqual(keys_of(hand), {"bob"})
        self.assertEqual(memory(hand), memory(brought(PLAN, [event for event in self.EVENTS if event[2] == "bob"])))
        self.assertEqual(hand.give_up("ann"), ([], []))
        self.assertEqual(hand.give_up("nobody"), ([], []))
        self.assertEqual(keys_of(hand), {"bob"})

    def test_several_joins_and_tellers_rise(self):
        for plan in PLANS:
            hand = brought(plan, self.EVENTS)
            parcel = hand.give_up("ann")
            self.assertEqual(list(parcel), [sorted(part) for part in parcel])
            self.assertNotIn("ann", keys_of(hand))

    def test_taken_in_by_itself_and_by_another(self):
        for plan in PLANS:
            whole = memory(brought(plan, self.EVENTS))
            hand = brought(plan, self.EVENTS)
            for key in ("ann", "bob", "nobody"):
                self.assertIsNone(hand.take_in(key, hand.give_up(key)))
                self.assertEqual(memory(hand), whole)
            other = Hand(plan)
            other.take_in("ann", hand.give_up("ann"))
            self.assertLessEqual(keys_of(other), {"ann"})
            self.assertEqual(memory(other), memory(brought(plan, [event for event in self.EVENTS if event[2] == "ann"])))
            other.take_in("bob", hand.give_up("bob"))
            self.assertEqual(memory(other), whole)
            self.assertEqual(keys_of(hand), set())

    def test_a_parcel_may_be_changed_behind(self):
        hand = brought(PLAN, self.EVENTS)
        parcel = hand.give_up("ann")
        kept = ([part for part in parcel[0]], [part for part in parcel[1]])
        other = Hand(PLAN)
        other.take_in("ann", parcel)
        self.assertEqual(parcel, kept)
        before = memory(brought(PLAN, [event for event in self.EVENTS if event[2] == "ann"]))
        parcel[0].clear()
        parcel[1].append((3, 1, 2, (1, 1, 1, 1)))
        self.assertEqual(memory(other), before)
        self.assertEqual(keys_of(hand), {"bob"})
        other.bring((9, "buy", "ann", 1))
        other.over(None)
        self.assertEqual(parcel[1], kept[1] + [(3, 1, 2, (1, 1, 1, 1))])

    def test_both_tell_together_what_one_tells(self):
        for plan in PLANS:
            for chance in chances(71, 6):
                events = sorted(some_events(chance, 30, 50))
                hands = [Hand(plan), Hand(plan)]
                one = Hand(plan)
                at = {"ann": 0, "bob": 1, "c": 0}
                for event in events:
                    if chance.random() < 0.4:
                        key = chance.choice(sorted(at))
                        parcel = hands[at[key]].give_up(key)
                        at[key] = chance.randrange(2)
                        hands[at[key]].take_in(key, parcel)
                    one.bring(event)
                    hands[at[event[2]]].bring(event)
                    for hand in [one] + hands:
                        hand.forget(event[0])
                    now = chance.choice([event[0], event[0] - 5])
                    self.assertEqual(sorted(hands[0].over(now) + hands[1].over(now)), one.over(now))
                self.assertEqual(sorted(hands[0].over(None) + hands[1].over(None)), one.over(None))


if __name__ == "__main__":
    unittest.main()
