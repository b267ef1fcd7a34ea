import unittest

from brooktally import errors
from brooktally.flow import Flow
from brooktally.packs import packed
from brooktally.unpacks import unpacked
from samples import BUYS, PLANS, SALES, chances, some_events

BILLION = 1000000000
PLAN = [BUYS, SALES, ("join", "met", "buys", "sales", 6), ("gap", "rest", "met", "count", 2),
        ("join", "self", "buys", "buys", 3), ("each", "days", "self", "sum", 10, 5)]
LINES = ["clock 7 6 4",
         "item 2 0 ann 7 -2", "item 2 0 ann 7 5", "item 2 0 ann 9 -8", "item 2 0 bob 0 3", "item 2 1 ann 4 4",
         "item 4 0 ann 3 0", "item 4 0 ann 3 0", "item 4 1 abb 3 0",
         "piece 3 ann 8 11 1 -6 -6 -6", "piece 3 ann 12 15 1 -3 -3 -3", "piece 3 bob -3 5 2 1 0 1",
         "piece 5 ann -5 5 2 4 2 2", "piece 5 bob -5 5 1 9 9 9",
         "end 14"]
# Words of texts that write no number as the document tells it.
NO_NUMBERS = ["", "+7", "07", "-0", "7.0", "x", "--7", "7\t", "1" * 61]


def replaced(lines, place, line):
    return lines[:place] + [line] + lines[place + 1:]


class ReadBackTest(unittest.TestCase):
    def assert_same(self, plan, slack, lines):
        before = (list(plan), list(lines))
        flow = unpacked(plan, slack, lines)
        self.assertIs(type(flow), Flow)
        self.assertEqual(packed(flow), lines)
        self.assertEqual((plan, lines), before)
        return flow

    def test_each_part_is_where_it_was(self):
        flow = self.assert_same(PLAN, 5, LINES)
        self.assertEqual((flow.plan, flow.clock.slack, flow.clock.now, flow.clock.count, flow.number), (PLAN, 5, 7, 6, 4))
        self.assertIsNot(flow.plan, PLAN)
        self.assertEqual({place: join.within for place, join in flow.joins.items()}, {2: 6, 4: 3})
        self.assertEqual([side.rows for side in flow.joins[2].sides],
                         [{"ann": [(7, -2), (7, 5), (9, -8)], "bob": [(0, 3)]}, {"ann": [(4, 4)]}])
        self.assertEqual([side.rows for side in flow.joins[4].sides], [{"ann": [(3, 0), (3, 0)]}, {"abb": [(3, 0)]}])
        self.assertEqual(flow.groups[3].rows, {"ann": [(8, 11, (1, -6, -6, -6)), (12, 15, (1, -3, -3, -3))],
                                               "bob": [(-3, 5, (2, 1, 0, 1))]})
        self.assertEqual(flow.groups[5].rows, {"ann": [(-5, 5, (2, 4, 2, 2))], "bob": [(-5, 5, (1, 9, 9, 9))]})

    def test_nothing_kept(self):
        for plan in PLANS:
            for lines in (["clock 0 0 0", "end 1"], ["clock 1000000000 99 98", "end 1"], ["clock 0 5 " + "9" * 60, "end 1"]):
                self.assert_same(plan, 5, lines)

    def test_amid_events_and_finished(self):
        for plan in PLANS:
            for slack in (0, 4, BILLION):
                for chance in chances(72, 3):
                    events = some_events(chance, 24, 40)
                    flow = Flow(plan, slack)
                    for place, event in enumerate(events):
                        other = self.assert_same(plan, slack, packed(flow))
                        told = [other.come(later) for later in events[place:]] + [other.finish()]
                        fresh = unpacked(plan, slack, packed(flow))
                        wanted = [fresh.come(event)]
                        self.assertEqual(flow.come(event), wanted[0])
                        self.assertEqual(packed(fresh), packed(flow))
                        wanted += [fresh.come(later) for later in events[place + 1:]] + [fresh.finish()]
                        self.assertEqual(told, wanted)
                    flow.finish()
                    self.assertEqual(self.assert_same(plan, slack, packed(flow)).finish(), [])

    def test_going_on_as_the_flow_did(self):
        for plan in PLANS:
            for chance in chances(73, 6):
                events = some_events(chance, 30, 40)
                straight = Flow(plan, 6)
                wanted = [straight.come(event) for event in events] + [straight.finish()]
                flow = Flow(plan, 6)
                told = []
                for event in events:
                    if chance.random() < 0.4:
                        flow = unpacked(plan, 6, packed(flow))
                    told.append(flow.come(event))
                self.assertEqual(told + [flow.finish()], wanted)
                self.assertEqual(flow.number, straight.number)

    def test_what_no_flow_could_have_come_to(self):
        self.assert_same(PLAN, 0, ["clock 900 0 5", "item 4 1 ann 1 " + "9" * 60, "piece 5 ann 3 -8 0 -5 9 -" + "9" * 59, "end 3"])

    def test_the_lists_may_be_changed_behind(self):
        plan = list(PLAN)
        lines = list(LINES)
        flow = unpacked(plan, 5, lines)
        plan.clear()
        lines.clear()
        self.assertEqual(packed(flow), LINES)
        self.assertEqual(flow.plan, PLAN)


class RefusedTest(unittest.TestCase):
    def assert_refused(self, place, lines, plan=PLAN):
        before = list(lines)
        with self.assertRaises(errors.BadKeep, msg=lines) as caught:
            unpacked(plan, 5, lines)
        self.assertIs(type(caught.exception), errors.BadKeep)
        self.assertEqual(caught.exception.place, place, lines)
        self.assertEqual(lines, before)

    def test_no_lines(self):
        self.assert_refused(0, [])

    def test_a_wrong_first_line(self):
        for line in ("", "clock", "clock 7 6", "clock 7 6 4 1", "clock  7 6 4", "clock 7  6 4", " clock 7 6 4", "clock 7 6 4 ",
                     "clock -1 6 4", "clock 7 -1 4", "clock 7 6 -1", "clock 1000000001 6 4", "Clock 7 6 4", "hand 6",
                     "end 0", "end 1", "item 2 0 ann 7 -2", "clock\t7 6 4", "clock 7 6 4\n", "7 6 4", "x 7 6 4"):
            self.assert_refused(0, replaced(LINES, 0, line))
            self.assert_refused(0, [line])
            self.assert_refused(0, [line, "end 1"])
        self.assert_refused(0, LINES[1:])
        self.assert_refused(1, LINES[:1] + LINES)

    def test_numbers_written_otherwise(self):
        for place, line in enumerate(LINES):
            words = line.split(" ")
            for at, word in enumerate(words):
                if word.lstrip("-").isdigit():
                    for other in NO_NUMBERS + ["0" + word, "+" + word, word + "x", word + "."]:
                        self.assert_refused(place, replaced(LINES, place, " ".join(words[:at] + [other] + words[at + 1:])))

    def test_a_word_more_or_less(self):
        for place, line in enumerate(LINES):
            words = line.split(" ")
            for at in range(len(words)):
                self.assert_refused(place, replaced(LINES, place, " ".join(words[:at] + words[at + 1:])))
            for at in range(len(words) + 1):
                for more in ("5", "ann", ""):
                    self.assert_refused(place, replaced(LINES, place, " ".join(words[:at] + [more] + words[at:])))
            for other in (line + " ", " " + line, line + "\n", line + "\t", line.replace(" ", "\t", 1), line.upper()):
                self.assert_refused(place, replaced(LINES, place, other))

    def test_places_that_are_no_joins(self):
        for at in ("0", "1", "3", "5", "6", "-1", "-2", "99"):
            self.assert_refused(1, ["clock 7 6 4", "item " + at + " 0 ann 7 -2", "end 2"])
        for at in ("2", "4"):
            unpacked(PLAN, 5, ["clock 7 6 4", "item " + at + " 0 ann 7 -2", "end 2"])

    def test_places_that_are_no_tellers(self):
        for at in ("0", "1", "2", "4", "6", "-1", "-3", "99"):
            self.assert_refused(1, ["clock 7 6 4", "piece " + at + " ann 8 11 1 -6 -6 -6", "end 2"])
        for at in ("3", "5"):
            unpacked(PLAN, 5, ["clock 7 6 4", "piece " + at + " ann 8 11 1 -6 -6 -6", "end 2"])

    def test_a_plan_without_either(self):
        for plan in PLANS[:2]:
            self.assert_refused(1, ["clock 0 0 0", "item 0 0 ann 7 -2", "end 2"], plan)
            self.assert_refused(1, ["clock 0 0 0", "piece 0 ann 8 11 1 -6 -6 -6", "end 2"], plan)

    def test_parts_of_an_item(self):
        for line in ("item 2 2 ann 7 -2", "item 2 -1 ann 7 -2", "item 2 0 Ann 7 -2", "item 2 0 abcdefghijklm 7 -2",
                     "item 2 0 a1 7 -2", "item 2 0 7 7 -2", "item 2 0 ann -1 -2", "item 2 0 ann 1000000001 -2",
                     "item 2 0 ann x -2", "item 2 0 ann 7 x", "items 2 0 ann 7 -2", "thing 2 0 ann 7 -2"):
            self.assert_refused(1, ["clock 7 6 4", line, "end 2"])
        for line in ("item 2 1 ann 7 -2", "item 2 0 ann 0 -2", "item 2 0 ann 1000000000 1000000001",
                     "item 2 0 abcdefghijkl 7 -99999999999999999999"):
            self.assertEqual(packed(unpacked(PLAN, 5, ["clock 7 6 4", line, "end 2"])), ["clock 7 6 4", line, "end 2"])

    def test_parts_of_a_piece(self):
        for line in ("piece 3 Ann 8 11 1 -6 -6 -6", "piece 3 8 8 11 1 -6 -6 -6", "piece 3 abcdefghijklm 8 11 1 -6 -6 -6",
                     "pieces 3 ann 8 11 1 -6 -6 -6", "item 3 ann 8 11 1 -6 -6 -6", "piece 3 ann 8 11 1 -6 -6",
                     "piece 3 ann a 11 1 -6 -6 -6"):
            self.assert_refused(1, ["clock 7 6 4", line, "end 2"])

    def test_items_out_of_their_order(self):
        items = LINES[1:9]
        for low in range(len(items)):
            for high in range(low + 1, len(items)):
                if items[low] != items[high]:
                    self.assert_refused(2, ["clock 7 6 4", items[high], items[low], "end 3"])
                lines = ["clock 7 6 4", items[low], items[high], "end 3"]
                self.assertEqual(packed(unpacked(PLAN, 5, lines)), lines)
        self.assert_refused(2, ["clock 7 6 4", "item 2 0 ann 10 0", "item 2 0 ann 9 0", "end 3"])

    def test_pieces_out_of_their_order(self):
        pieces = LINES[9:14]
        for low in range(len(pieces)):
            for high in range(low + 1, len(pieces)):
                self.assert_refused(2, ["clock 7 6 4", pieces[high], pieces[low], "end 3"])
                lines = ["clock 7 6 4", pieces[low], pieces[high], "end 3"]
                self.assertEqual(packed(unpacked(PLAN, 5, lines)), lines)
        self.assert_refused(2, ["clock 7 6 4", "piece 3 ann 10 20 1 1 1 1", "piece 3 ann 9 19 1 1 1 1", "end 3"])

    def test_alike_ones(self):
        lines = ["clock 7 6 4", LINES[1], LINES[1], LINES[1], "end 4"]
        self.assertEqual(packed(unpacked(PLAN, 5, lines)), lines)
        self.assert_refused(2, ["clock 7 6 4", LINES[9], LINES[9], "end 3"])
        # Pieces of one place, key and start are alike, whatever else stands in them.
        self.assert_refused(2, ["clock 7 6 4", "piece 3 ann 8 11 1 1 1 1", "piece 3 ann 8 12 2 2 1 1", "end 3"])

    def test_an_item_behind_a_piece(self):
        for item in LINES[1:9]:
            for piece in LINES[9:14]:
                self.assert_refused(2, ["clock 7 6 4", piece, item, "end 3"])

    def test_the_end_line(self):
        for line in ("end", "end 13", "end 15", "end 0", "end -14", "end 014", "end 14 ", "end  14", " end 14", "End 14",
                     "end 14 14", "", "ends 14", "clock 7 6 4", LINES[1], LINES[13]):
            self.assert_refused(14, replaced(LINES, 14, line))
        for place in range(1, 14):
            self.assert_refused(place, replaced(LINES, place, "end 14"))
            self.assert_refused(place + 1, replaced(LINES, place, "end " + str(place)))

    def test_no_end_line(self):
        for many in range(1, 15):
            self.assert_refused(many, LINES[:many])

    def test_lines_behind_the_end_line(self):
        for line in ("", "end 14", "end 15", "clock 7 6 4", LINES[13], "x"):
            self.assert_refused(15, LINES + [line])
            self.assert_refused(15, LINES + [line, line])

    def test_the_first_of_several(self):
        self.assert_refused(0, ["x", "x", "x"])
        self.assert_refused(2, LINES[:2] + ["x", "y"] + LINES[4:])
        self.assert_refused(9, LINES[:9] + ["x"])
        for place in range(1, 14):
            self.assert_refused(14 - 1, LINES[:place] + LINES[place + 1:])


if __name__ == "__main__":
    unittest.main()
