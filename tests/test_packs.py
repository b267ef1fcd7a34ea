import unittest

from brooktally.flow import Flow
from brooktally.packs import packed
from brooktally.unpacks import unpacked
from samples import BUYS, PLANS, SALES, chances, some_events

PLAN = [BUYS, SALES, ("join", "met", "buys", "sales", 6), ("gap", "rest", "met", "count", 2),
        ("join", "self", "buys", "buys", 3), ("each", "days", "self", "sum", 10, 5), ("each", "raw", "sales", "sum", 5, 5)]
GREAT = 10 ** 25


class PackedTest(unittest.TestCase):
    def test_ahead_of_all_events(self):
        for plan in PLANS:
            for slack in (0, 9):
                self.assertEqual(packed(Flow(plan, slack)), ["clock 0 0 0", "end 1"])

    def test_amid_events(self):
        flow = Flow(PLAN, 5)
        for event in ((8, "buy", "bob", 3), (7, "buy", "ann", -2), (8, "sell", "ann", 4), (12, "sell", "ann", 1),
                      (2, "buy", "ann", 9), (8, "buy", "bob", 3)):
            flow.come(event)
        self.assertEqual(packed(flow), [
            "clock 7 6 0",
            "item 2 0 ann 7 -2", "item 2 0 bob 8 3", "item 2 0 bob 8 3", "item 2 1 ann 8 4", "item 2 1 ann 12 1",
            "item 4 0 ann 7 -2", "item 4 0 bob 8 3", "item 4 0 bob 8 3",
            "item 4 1 ann 7 -2", "item 4 1 bob 8 3", "item 4 1 bob 8 3",
            "piece 3 ann 8 11 1 -6 -6 -6", "piece 3 ann 12 15 1 -3 -3 -3",
            "piece 5 ann 0 10 1 0 0 0", "piece 5 ann 5 15 1 0 0 0", "piece 5 bob 0 10 4 0 0 0", "piece 5 bob 5 15 4 0 0 0",
            "piece 6 ann 5 10 1 4 4 4", "piece 6 ann 10 15 1 1 1 1",
            "end 20"])

    def test_rows_that_were_told_are_counted(self):
        flow = Flow([BUYS, ("each", "days", "buys", "sum", 10, 10)], 0)
        for time in (3, 13, 12, 24):
            flow.come((time, "buy", "ann", 1))
        self.assertEqual(packed(flow), ["clock 24 4 2", "piece 1 ann 20 30 1 1 1 1", "end 2"])
        flow.finish()
        self.assertEqual(packed(flow), ["clock 24 4 3", "end 1"])

    def test_windows_below_nought_and_great_numbers(self):
        flow = Flow([BUYS, ("join", "self", "buys", "buys", 3), ("each", "days", "self", "sum", 10, 5)], 5)
        flow.joins[1].sides[1].put((0, "ann", GREAT))
        flow.groups[2].put((0, "ann", -GREAT))
        self.assertEqual(packed(flow), [
            "clock 0 0 0", "item 1 1 ann 0 10000000000000000000000000",
            "piece 2 ann -5 5 1 -10000000000000000000000000 -10000000000000000000000000 -10000000000000000000000000",
            "piece 2 ann 0 10 1 -10000000000000000000000000 -10000000000000000000000000 -10000000000000000000000000",
            "end 4"])
        self.assertEqual(packed(unpacked(flow.plan, 5, packed(flow))), packed(flow))

    def test_places_in_the_order_of_numbers(self):
        plan = [("take", name, "buy") for name in "abcdefghij"]
        plan += [("join", "k", "a", "a", 5), ("each", "l", "a", "sum", 10, 10)]
        plan = [plan[0], ("join", "y", "a", "a", 5), ("each", "z", "a", "sum", 10, 10)] + plan[1:]
        flow = Flow(plan, 5)
        flow.come((1, "buy", "ann", 1))
        self.assertEqual([line.split(" ")[:2] for line in packed(flow)], [
            ["clock", "0"], ["item", "1"], ["item", "1"], ["item", "12"], ["item", "12"], ["piece", "2"], ["piece", "13"],
            ["end", "7"]])

    def test_the_flow_stays_as_it_is(self):
        for plan in PLANS:
            for chance in chances(71, 3):
                asked = Flow(plan, 4)
                other = Flow(plan, 4)
                for event in some_events(chance, 25, 40):
                    packed(asked).clear()
                    self.assertEqual(asked.come(event), other.come(event))
                self.assertEqual(packed(asked), packed(other))
                self.assertEqual(packed(asked), packed(asked))
                self.assertEqual(asked.finish(), other.finish())


if __name__ == "__main__":
    unittest.main()
