import unittest

from brooktally import errors
from brooktally.clocks import Clock
from brooktally.flow import Flow
from brooktally.hands import Hand
from brooktally.houses import House
from samples import PLANS, chances, no_numbers, some_events

BILLION = 1000000000
KEYS = ("a", "b", "ann", "bob", "cid", "zz", "abcdefghijkl")


def home_by_words(key, many):
    return sum("abcdefghijklmnopqrstuvwxyz".index(letter) for letter in key) % many


def kept_by(things):
    """What the joins and groups of some hands, or of a flow, keep together."""
    items = sorted((place, side, item) for thing in things for place, join in thing.joins.items()
                   for side in (0, 1) for item in join.sides[side].kept())
    pieces = sorted((place, piece) for thing in things for place, group in thing.groups.items() for piece in group.pieces())
    return items, pieces


class HouseTest(unittest.TestCase):
    def assert_beside(self, house, flow, events, chance=None):
        late = 0
        for event in events:
            if chance is not None and chance.random() < 0.5:
                house.move(chance.choice(KEYS), chance.randrange(len(house.hands)))
            told = house.come(event)
            self.assertIs(type(told), tuple)
            self.assertIs(type(told[1]), list)
            self.assertEqual(told, flow.come(event))
            late += 0 if told[0] else 1
            self.assertEqual((house.clock.now, house.clock.count), (flow.clock.now, flow.clock.count))
            self.assertEqual(kept_by(house.hands), kept_by([flow]))
            for number, hand in enumerate(house.hands):
                own = {item[2][0] for item in kept_by([hand])[0]} | {piece[1][0] for piece in kept_by([hand])[1]}
                self.assertTrue(all(house.home(key) == number for key in own))
        told = house.finish()
        self.assertEqual(told, flow.finish())
        told.clear()
        self.assertEqual((house.finish(), flow.finish()), ([], []))
        return late

    def test_a_new_one(self):
        for many in range(1, 9):
            house = House(PLANS[5], 7, many)
            self.assertIs(type(house.clock), Clock)
            self.assertEqual((house.clock.slack, house.clock.now, house.clock.count, house.homes), (7, 0, 0, {}))
            self.assertIs(type(house.hands), list)
            self.assertEqual([type(hand) for hand in house.hands], [Hand] * many)
            self.assertEqual(len({id(hand) for hand in house.hands}), many)
            self.assertTrue(all(hand.plan == PLANS[5] for hand in house.hands))
            self.assertEqual(house.finish(), [])

    def test_no_slacks(self):
        for thing in no_numbers() + [-1, BILLION + 1]:
            with self.assertRaises(errors.BadSlack, msg=repr(thing)) as caught:
                House(PLANS[5], thing, 3)
            self.assertIs(type(caught.exception), errors.BadSlack)

    def test_homes_by_letters(self):
        house = House([], 0, 4)
        self.assertEqual([house.home(key) for key in ("a", "b", "c", "d", "e", "z", "bb", "dd", "abcd")],
                         [0, 1, 2, 3, 0, 1, 2, 2, 2])
        for many in range(1, 9):
            house = House(PLANS[2], 0, many)
            for key in KEYS:
                self.assertEqual(house.home(key), home_by_words(key, many))
            self.assertEqual(house.homes, {})

    def test_an_event_is_brought_to_its_keys_hand_alone(self):
        for many in range(1, 9):
            for key in KEYS:
                house = House(PLANS[6], 100, many)
                house.come((5, "buy", key, 1))
                for number, hand in enumerate(house.hands):
                    self.assertEqual(kept_by([hand]) != ([], []), number == home_by_words(key, many))

    def test_beside_a_flow(self):
        for plan in PLANS:
            late = 0
            for many in range(1, 9):
                for slack in (0, 4, BILLION):
                    chance = chances(71 + many, 1)[0]
                    events = some_events(chance, 25, 40, keys=KEYS[:5])
                    late += self.assert_beside(House(plan, slack, many), Flow(plan, slack), events)
            self.assertGreater(late, 0)

    def test_beside_a_flow_with_keys_moved(self):
        for plan in PLANS:
            for many in range(1, 9):
                for slack in (0, 4, 15):
                    for chance in chances(80 + many, 2):
                        events = some_events(chance, 25, 40, keys=KEYS[:5])
                        house = House(plan, slack, many)
                        for key in KEYS[:2]:
                            house.move(key, chance.randrange(many))
                        self.assert_beside(house, Flow(plan, slack), events, chance)

    def test_moved_ahead_of_all_events(self):
        house = House(PLANS[5], 5, 3)
        self.assertIsNone(house.move("ann", 2))
        self.assertEqual((house.homes, house.home("ann")), ({"ann": 2}, 2))
        house.come((5, "buy", "ann", 1))
        self.assertEqual([kept_by([hand]) != ([], []) for hand in house.hands], [False, False, True])

    def test_moved_behind_events(self):
        house = House(PLANS[5], 100, 3)
        for event in ((5, "buy", "ann", 1), (6, "sell", "ann", 2), (7, "buy", "bob", 3)):
            house.come(event)
        everything = kept_by(house.hands)
        for number in (1, 2, 2, 0, 1):
            house.move("ann", number)
            self.assertEqual(house.homes, {"ann": number})
            self.assertEqual(house.home("ann"), number)
            self.assertEqual(kept_by(house.hands), everything)
            self.assertTrue(all(("ann" in hand.joins[2].sides[0].rows) == (at == number) for at, hand in enumerate(house.hands)))
            self.assertEqual(house.home("bob"), home_by_words("bob", 3))

    def test_moved_to_the_hand_that_has_it(self):
        house = House(PLANS[5], 100, 3)
        house.come((5, "buy", "ann", 1))
        before = kept_by([house.hands[home_by_words("ann", 3)]])
        house.move("ann", home_by_words("ann", 3))
        self.assertEqual(house.homes, {"ann": home_by_words("ann", 3)})
        self.assertEqual(kept_by([house.hands[home_by_words("ann", 3)]]), before)

    def test_moved_keys_that_never_came(self):
        house = House(PLANS[5], 100, 3)
        house.move("zz", 1)
        house.move("zz", 0)
        house.move("cid", 2)
        self.assertEqual(house.homes, {"zz": 0, "cid": 2})
        self.assertEqual(kept_by(house.hands), ([], []))

    def test_homes_has_just_the_moved_keys(self):
        house = House(PLANS[5], 0, 3)
        for time, key in enumerate(KEYS):
            house.come((time, "buy", key, 1))
            house.home(key)
        self.assertEqual(house.homes, {})

    def test_a_late_event_changes_nothing(self):
        house = House(PLANS[5], 2, 3)
        house.come((20, "buy", "ann", 1))
        before = kept_by(house.hands)
        self.assertEqual(house.come((17, "buy", "bob", 1)), (False, []))
        self.assertEqual((kept_by(house.hands), house.clock.now, house.clock.count), (before, 18, 2))

    def test_the_plan_may_be_changed_behind(self):
        plan = list(PLANS[5])
        house = House(plan, 4, 3)
        plan.clear()
        self.assert_beside(house, Flow(PLANS[5], 4), some_events(chances(90, 1)[0], 25, 40))


if __name__ == "__main__":
    unittest.main()
