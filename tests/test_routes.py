import unittest

from brooktally.flow import joins_of
from brooktally.plans import checked, tellers
from brooktally.routes import spread
from samples import BUYS, PLANS, SALES, chances, items_by_words, some_events


def all_spread(plan, events):
    joins = joins_of(plan)
    return [spread(plan, joins, event) for event in events]


class SpreadTest(unittest.TestCase):
    def test_the_plans_are_plans(self):
        for plan in PLANS:
            self.assertIs(checked(plan), True)

    def test_the_empty_plan(self):
        self.assertEqual(spread([], {}, (5, "buy", "ann", 3)), [])

    def test_no_tellers(self):
        self.assertEqual(all_spread([BUYS, SALES, ("join", "met", "buys", "sales", 6)],
                                    [(5, "buy", "ann", 3), (6, "sell", "ann", 3)]), [[], []])

    def test_take(self):
        plan = [BUYS, ("gap", "rest", "buys", "sum", 1), ("each", "days", "buys", "sum", 1, 1)]
        self.assertEqual(all_spread(plan, [(5, "buy", "ann", 3), (6, "sell", "ann", 3), (7, "buys", "ann", 3)]),
                         [[(1, (5, "ann", 3)), (2, (5, "ann", 3))], [], []])

    def test_only(self):
        plan = [BUYS, ("only", "some", "buys", -1, 2), ("gap", "rest", "some", "sum", 1)]
        told = all_spread(plan, [(5, "buy", "ann", amount) for amount in (-2, -1, 0, 2, 3)])
        self.assertEqual(told, [[], [(2, (5, "ann", -1))], [(2, (5, "ann", 0))], [(2, (5, "ann", 2))], []])

    def test_turn(self):
        plan = [BUYS, ("turn", "back", "buys", -3, 10), ("gap", "rest", "back", "sum", 1)]
        self.assertEqual(all_spread(plan, [(5, "buy", "ann", 3), (6, "buy", "bob", -1)]),
                         [[(2, (5, "ann", 1))], [(2, (6, "bob", 13))]])

    def test_both(self):
        plan = [BUYS, SALES, ("both", "all", "buys", "sales"), ("gap", "rest", "all", "sum", 1)]
        self.assertEqual(all_spread(plan, [(5, "buy", "ann", 3), (6, "sell", "bob", -1)]),
                         [[(3, (5, "ann", 3))], [(3, (6, "bob", -1))]])
        plan = [BUYS, ("both", "all", "buys", "buys"), ("gap", "rest", "all", "sum", 1)]
        self.assertEqual(all_spread(plan, [(5, "buy", "ann", 3)]), [[(2, (5, "ann", 3)), (2, (5, "ann", 3))]])

    def test_join(self):
        plan = [BUYS, SALES, ("join", "met", "buys", "sales", 6), ("gap", "rest", "met", "sum", 1)]
        told = all_spread(plan, [(5, "buy", "ann", 3), (11, "sell", "ann", 1), (12, "sell", "ann", 1), (9, "buy", "ann", 9)])
        self.assertEqual(told[:3], [[], [(3, (11, "ann", 2))], []])
        self.assertEqual(sorted(told[3]), [(3, (11, "ann", 8)), (3, (12, "ann", 8))])

    def test_a_join_of_one_stream_with_itself(self):
        plan = [BUYS, ("join", "self", "buys", "buys", 3), ("gap", "rest", "self", "sum", 1)]
        joins = joins_of(plan)
        self.assertEqual(spread(plan, joins, (5, "buy", "ann", 3)), [(2, (5, "ann", 0))])
        self.assertEqual(sorted(spread(plan, joins, (6, "buy", "ann", 7))),
                         [(2, (6, "ann", -4)), (2, (6, "ann", 0)), (2, (6, "ann", 4))])
        self.assertEqual([side.kept() for side in joins[1].sides], [[("ann", 5, 3), ("ann", 6, 7)]] * 2)

    def test_the_joins_handed_in_keep_what_comes(self):
        plan = PLANS[5]
        joins = joins_of(plan)
        spread(plan, joins, (5, "buy", "ann", 3))
        spread(plan, joins, (5, "sell", "bob", 3))
        self.assertEqual([side.rows for side in joins[2].sides], [{"ann": [(5, 3)]}, {"bob": [(5, 3)]}])
        joins[2].sides[1].put((6, "ann", 1))
        self.assertEqual(spread(plan, joins, (4, "buy", "ann", 9)), [(3, (6, "ann", 8)), (4, (6, "ann", 8)), (5, (4, "ann", 9))])

    def test_a_kind_that_no_take_has(self):
        for plan in PLANS:
            joins = joins_of(plan)
            self.assertEqual(spread(plan, joins, (5, "other", "ann", 3)), [])
            self.assertTrue(all(side.rows == {} for join in joins.values() for side in join.sides))

    def test_all_together_are_what_the_document_says(self):
        for plan in PLANS:
            for chance in chances(36, 8):
                events = some_events(chance, chance.randrange(18), 25)
                before = (list(plan), list(events))
                told = all_spread(plan, events)
                self.assertEqual((plan, events), before)
                for pairs in told:
                    self.assertIs(type(pairs), list)
                    places = [place for place, item in pairs]
                    self.assertEqual(places, sorted(places))
                for place in range(len(plan)):
                    items = sorted(item for pairs in told for at, item in pairs if at == place)
                    wanted = items_by_words(plan, plan[place][2], events) if place in tellers(plan) else []
                    self.assertEqual(items, wanted)

    def test_told_lists_are_the_askers_own(self):
        plan = PLANS[2]
        joins = joins_of(plan)
        spread(plan, joins, (5, "buy", "ann", 3)).clear()
        self.assertEqual(spread(plan, joins, (5, "buy", "ann", 3)), [(1, (5, "ann", 3))])


if __name__ == "__main__":
    unittest.main()
