import itertools
import unittest

from brooktally.once import told_once
from brooktally.reasons import told_why, why
from samples import BUYS, PLANS, SALES, chances, reasons_by_words, some_events

EVENTS = [(5, "buy", "ann", 3), (7, "sell", "ann", 1), (5, "buy", "bob", -4), (12, "buy", "ann", 8), (3, "sell", "ann", 1),
          (6, "other", "ann", 2), (13, "sell", "ann", 2)]


class ReasonsTest(unittest.TestCase):
    def assert_reasons(self, plan, *wanted):
        self.assertEqual(told_why(plan, EVENTS), list(wanted))

    def test_take(self):
        self.assert_reasons([BUYS, ("each", "t", "buys", "sum", 10, 10)], (("t", "ann", 0, 10, 3), [0]),
                            (("t", "bob", 0, 10, -4), [2]), (("t", "ann", 10, 20, 8), [3]))
        self.assert_reasons([SALES, ("gap", "t", "sales", "sum", 4)], (("t", "ann", 3, 12, 2), [1, 4]), (("t", "ann", 13, 18, 2), [6]))

    def test_only_and_turn(self):
        plan = [BUYS, ("only", "some", "buys", 3, 9), ("turn", "back", "some", -1, 0), ("each", "t", "back", "sum", 20, 20)]
        self.assert_reasons(plan, (("t", "ann", 0, 20, -11), [0, 3]))

    def test_both(self):
        plan = [BUYS, SALES, ("both", "all", "sales", "buys"), ("each", "t", "all", "count", 20, 20)]
        self.assert_reasons(plan, (("t", "ann", 0, 20, 5), [0, 1, 3, 4, 6]), (("t", "bob", 0, 20, 1), [2]))
        plan = [BUYS, ("both", "all", "buys", "buys"), ("each", "t", "all", "count", 20, 20)]
        self.assert_reasons(plan, (("t", "ann", 0, 20, 4), [0, 3]), (("t", "bob", 0, 20, 2), [2]))

    def test_join(self):
        plan = [BUYS, SALES, ("join", "met", "buys", "sales", 2), ("each", "t", "met", "count", 1, 1)]
        self.assert_reasons(plan, (("t", "ann", 5, 6, 1), [0, 4]), (("t", "ann", 7, 8, 1), [0, 1]), (("t", "ann", 13, 14, 1), [3, 6]))
        plan = [SALES, ("join", "self", "sales", "sales", 4), ("each", "t", "self", "count", 1, 1)]
        self.assert_reasons(plan, (("t", "ann", 3, 4, 1), [4]), (("t", "ann", 7, 8, 3), [1, 4]), (("t", "ann", 13, 14, 1), [6]))

    def test_a_join_behind_a_join(self):
        plan = [BUYS, SALES, ("join", "met", "buys", "sales", 2), ("join", "deep", "met", "sales", 6), ("each", "t", "deep", "count", 1, 1)]
        self.assert_reasons(plan, (("t", "ann", 5, 6, 1), [0, 4]), (("t", "ann", 7, 8, 3), [0, 1, 4]),
                            (("t", "ann", 13, 14, 3), [0, 1, 3, 6]))

    def test_against_the_words(self):
        for plan in PLANS:
            for chance in chances(80, 8):
                events = some_events(chance, chance.randrange(16), 25)
                before = (list(plan), list(events))
                told = told_why(plan, events)
                self.assertIs(type(told), list)
                self.assertEqual(told, reasons_by_words(plan, events))
                self.assertEqual([row for row, places in told], told_once(plan, events))
                for pair in told:
                    self.assertIs(type(pair), tuple)
                    row, places = pair
                    self.assertEqual(why(plan, events, row), places)
                    self.assertEqual(places, sorted(set(places)))
                    self.assertGreater(len(places), 0)
                self.assertEqual((plan, events), before)

    def test_rows_that_are_not_told(self):
        for plan in PLANS:
            told = [row for row, places in told_why(plan, EVENTS)]
            for row in told:
                for place, others in enumerate((["none", "buys"], ["zoe", "bo"], [row[2] - 1, row[2] + 1], [row[3] + 1, row[3] - 1],
                                                [row[4] + 1, row[4] - 1, -row[4] - 100])):
                    for other in others:
                        changed = row[:place] + (other,) + row[place + 1:]
                        self.assertNotIn(changed, told)
                        self.assertEqual(why(plan, EVENTS, changed), [])
            self.assertEqual(why(plan, [], ("t", "ann", 0, 10, 3)), [])
        self.assertEqual(told_why([], EVENTS), [])
        self.assertEqual(told_why(PLANS[5], []), [])

    def test_choices_of_events(self):
        for plan in PLANS:
            sorts = {step[1]: step[3] for step in plan if step[0] in ("each", "gap")}
            told = told_why(plan, EVENTS)
            for many in range(len(EVENTS) + 1):
                for choice in itertools.combinations(range(len(EVENTS)), many):
                    rows = told_once(plan, [EVENTS[place] for place in choice])
                    for row, places in told:
                        if set(places) <= set(choice):
                            self.assertIn(row, rows)
                        elif sorts[row[0]] == "count":
                            self.assertNotIn(row, rows)

    def test_of_its_reason_alone(self):
        for plan in PLANS:
            for chance in chances(81, 5):
                events = some_events(chance, 20, 25)
                for row, places in told_why(plan, events):
                    self.assertIn(row, told_once(plan, [events[place] for place in places]))

    def test_told_lists_are_the_askers_own(self):
        plan = [BUYS, ("each", "a", "buys", "sum", 20, 20), ("each", "b", "buys", "sum", 20, 20)]
        told = told_why(plan, EVENTS)
        told[0][1].append(99)
        self.assertEqual(told[1][1], [2])
        self.assertEqual(told_why(plan, EVENTS), reasons_by_words(plan, EVENTS))
        row = told[0][0]
        why(plan, EVENTS, row).clear()
        self.assertEqual(why(plan, EVENTS, row), [0, 3])


if __name__ == "__main__":
    unittest.main()
