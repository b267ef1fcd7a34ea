import unittest

from brooktally import errors
from brooktally.flow import Flow
from brooktally.handkeeps import hand_packed, hand_unpacked, whole_count
from brooktally.hands import Hand
from brooktally.packs import packed
from samples import BUYS, PLANS, SALES, chances, some_events

PLAN = [BUYS, SALES, ("join", "met", "buys", "sales", 6), ("gap", "rest", "met", "count", 2),
        ("join", "self", "buys", "buys", 3), ("each", "days", "self", "sum", 10, 5)]
LINES = ["hand 6",
         "item 2 0 ann 7 -2", "item 2 0 ann 7 -2", "item 2 1 ann 4 4", "item 4 0 ann 3 0", "item 4 1 abb 3 0",
         "piece 3 ann 8 11 1 -6 -6 -6", "piece 3 bob -3 5 2 1 0 1", "piece 5 ann -5 5 2 4 2 2",
         "end 9"]


def replaced(place, line):
    return LINES[:place] + [line] + LINES[place + 1:]


class HandKeepsTest(unittest.TestCase):
    def assert_refused(self, place, lines, plan=PLAN):
        before = list(lines)
        with self.assertRaises(errors.BadKeep, msg=lines) as caught:
            hand_unpacked(plan, lines)
        self.assertIs(type(caught.exception), errors.BadKeep)
        self.assertEqual(caught.exception.place, place, lines)
        self.assertEqual(lines, before)

    def test_ahead_of_all_events(self):
        for plan in PLANS:
            self.assertEqual(hand_packed(Hand(plan), 0), ["hand 0", "end 1"])
            self.assertEqual(hand_packed(Hand(plan), 17), ["hand 17", "end 1"])

    def test_lines_as_of_a_flows_keep(self):
        for plan in PLANS:
            for chance in chances(91, 4):
                flow = Flow(plan, 5)
                hand = Hand(plan)
                for count, event in enumerate(some_events(chance, 20, 40), start=1):
                    if flow.come(event)[0]:
                        hand.bring(event)
                        hand.forget(flow.clock.now)
                        hand.over(flow.clock.now)
                    self.assertEqual(hand_packed(hand, count), ["hand " + str(count)] + packed(flow)[1:])
                    self.assertEqual(hand_packed(hand, count), hand_packed(hand, count))

    def test_read_back_and_going_on_alike(self):
        for plan in PLANS:
            for chance in chances(92, 4):
                events = sorted(some_events(chance, 20, 40))
                hand = Hand(plan)
                for count, event in enumerate(events):
                    lines = hand_packed(hand, count)
                    told = hand_unpacked(plan, lines)
                    self.assertIs(type(told), tuple)
                    self.assertIs(type(told[0]), Hand)
                    self.assertEqual(told[1], count)
                    self.assertEqual(told[0].plan, plan)
                    self.assertEqual(hand_packed(told[0], count), lines)
                    self.assertEqual(whole_count(lines), count)
                    for one in (hand, told[0]):
                        one.bring(event)
                        one.forget(event[0] - 3)
                    self.assertEqual(told[0].over(event[0] - 3), hand.over(event[0] - 3))
                    self.assertEqual(hand_packed(told[0], count), hand_packed(hand, count))

    def test_what_is_read_lies_where_it_was(self):
        hand, count = hand_unpacked(PLAN, LINES)
        self.assertEqual(count, 6)
        self.assertEqual([side.rows for side in hand.joins[2].sides], [{"ann": [(7, -2), (7, -2)]}, {"ann": [(4, 4)]}])
        self.assertEqual([side.rows for side in hand.joins[4].sides], [{"ann": [(3, 0)]}, {"abb": [(3, 0)]}])
        self.assertEqual(hand.groups[3].rows, {"ann": [(8, 11, (1, -6, -6, -6))], "bob": [(-3, 5, (2, 1, 0, 1))]})
        self.assertEqual(hand_packed(hand, 6), LINES)

    def test_the_lists_may_be_changed_behind(self):
        plan = list(PLAN)
        lines = list(LINES)
        hand = hand_unpacked(plan, lines)[0]
        plan.clear()
        lines.clear()
        self.assertEqual(hand_packed(hand, 6), LINES)
        hand_packed(hand, 6).clear()
        self.assertEqual(hand_packed(hand, 6), LINES)

    def test_a_wrong_first_line(self):
        self.assert_refused(0, [])
        for line in ("", "hand", "hand ", "hand -1", "hand 06", "hand +6", "hand x", "hand 6 6", "hand  6", " hand 6", "hand 6 ",
                     "Hand 6", "hands 6", "6", "clock 0 6 0", "clock 6", "end 0", "hand\t6", "hand 6\n", "hand " + "1" * 61):
            self.assert_refused(0, replaced(0, line))
            self.assert_refused(0, [line])
            self.assert_refused(0, [line, "end 1"])
        self.assertEqual(hand_unpacked(PLAN, ["hand " + "1" * 60, "end 1"])[1], int("1" * 60))

    def test_places_as_of_a_flows_keep(self):
        for many in range(1, 10):
            self.assert_refused(many, LINES[:many])
        for place in range(1, 10):
            for line in ("", "x", LINES[place] + " ", LINES[place] + " 5", LINES[place].rpartition(" ")[0], "hand 6", "end 99"):
                self.assert_refused(place, replaced(place, line))
        self.assert_refused(10, LINES + ["end 10"])
        self.assert_refused(10, LINES + LINES)
        for place in range(1, 9):
            self.assert_refused(8, LINES[:place] + LINES[place + 1:])
        self.assert_refused(2, ["hand 6", LINES[6], LINES[1], "end 3"])
        self.assert_refused(2, ["hand 6", LINES[6], LINES[6], "end 3"])
        self.assert_refused(2, ["hand 6", LINES[3], LINES[1], "end 3"])
        self.assert_refused(1, ["hand 6", "item 3 0 ann 7 1", "end 2"])
        self.assert_refused(1, ["hand 6", "item 2 2 ann 7 1", "end 2"])
        self.assert_refused(1, ["hand 6", "item 2 0 ann 1000000001 1", "end 2"])
        self.assert_refused(1, ["hand 6", "piece 2 ann 8 11 1 1 1 1", "end 2"])
        self.assert_refused(1, ["hand 6", "item 2 0 ann 7 1", "end 2"], PLANS[2])

    def test_whole_count(self):
        self.assertEqual(whole_count(LINES), 6)
        self.assertEqual(whole_count(["hand 0", "end 1"]), 0)
        for many in range(len(LINES)):
            self.assertEqual(whole_count(LINES[:many]), -1)
        for lines in (["hand 0"], ["end 0"], ["x", "end 1"], ["hand -5", "end 1"], ["hand 5", "end 2"], ["clock 0 5 0", "end 1"],
                      LINES + ["end 9"], LINES[1:], ["hand 05", "end 1"]):
            self.assertEqual(whole_count(lines), -1, lines)
        lines = list(LINES)
        whole_count(lines)
        self.assertEqual(lines, LINES)


if __name__ == "__main__":
    unittest.main()
