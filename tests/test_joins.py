import itertools
import random
import unittest

from brooktally.joins import Join
from brooktally.sides import Side

GREAT = 10 ** 19
# Items with the side on which they come.
COMING = [(0, (5, "ann", 3)), (1, (5, "ann", 3)), (1, (8, "ann", -1)), (0, (11, "ann", 7)), (1, (8, "bob", 2)),
          (0, (5, "bob", GREAT))]


def made_by_words(coming, within):
    ones = [item for side, item in coming if side == 0]
    others = [item for side, item in coming if side == 1]
    return sorted((max(one[0], other[0]), one[1], one[2] - other[2]) for one in ones for other in others
                  if one[1] == other[1] and abs(one[0] - other[0]) <= within)


def all_made(join, coming):
    told = []
    for side, item in coming:
        told.extend(join.come(side, item))
    return told


class JoinTest(unittest.TestCase):
    def test_a_new_one(self):
        for within in (0, 5, 1000000):
            join = Join(within)
            self.assertEqual(join.within, within)
            self.assertIs(type(join.sides), list)
            self.assertEqual([type(side) for side in join.sides], [Side, Side])
            self.assertEqual([side.rows for side in join.sides], [{}, {}])
            self.assertIsNot(join.sides[0].rows, join.sides[1].rows)
            self.assertIsNone(join.drop(10))

    def test_the_first_sides_amount_less_the_second_sides(self):
        join = Join(5)
        self.assertEqual(join.come(0, (10, "ann", 3)), [])
        self.assertEqual(join.come(1, (12, "ann", 10)), [(12, "ann", -7)])
        join = Join(5)
        self.assertEqual(join.come(1, (12, "ann", 10)), [])
        self.assertEqual(join.come(0, (10, "ann", 3)), [(12, "ann", -7)])

    def test_just_within_apart(self):
        for within in (0, 1, 5, 1000000):
            for first in (0, 1):
                for apart in (-within, within):
                    for more in (-1, 0, 1):
                        join = Join(within)
                        time = 2000000
                        other = time + apart + (more if apart >= 0 else -more)
                        join.come(first, (time, "ann", 4))
                        met = [(max(time, other), "ann", 0)] if abs(time - other) <= within else []
                        self.assertEqual(join.come(1 - first, (other, "ann", 4)), met, (within, first, apart, more))

    def test_within_nought(self):
        join = Join(0)
        join.come(0, (5, "ann", 1))
        self.assertEqual(join.come(1, (4, "ann", 1)), [])
        self.assertEqual(join.come(1, (6, "ann", 1)), [])
        self.assertEqual(join.come(1, (5, "ann", 1)), [(5, "ann", 0)])

    def test_another_key_meets_nothing(self):
        join = Join(100)
        join.come(0, (5, "ann", 1))
        self.assertEqual(join.come(1, (5, "bob", 1)), [])
        self.assertEqual(join.come(1, (5, "an", 1)), [])

    def test_its_own_side_meets_nothing(self):
        for side in (0, 1):
            join = Join(100)
            for count in range(4):
                self.assertEqual(join.come(side, (5, "ann", 1)), [])
                self.assertEqual(join.sides[side].kept(), [("ann", 5, 1)] * (count + 1))
                self.assertEqual(join.sides[1 - side].kept(), [])

    def test_what_is_made_rises(self):
        join = Join(10)
        for amount in (5, -3, 9, 9):
            join.come(0, (4, "ann", amount))
        join.come(0, (8, "ann", 100))
        self.assertEqual(join.come(1, (6, "ann", 1)), [(6, "ann", -4), (6, "ann", 4), (6, "ann", 8), (6, "ann", 8), (8, "ann", 99)])
        join = Join(10)
        for amount in (5, -3, 9, 9):
            join.come(1, (4, "ann", amount))
        self.assertEqual(join.come(0, (6, "ann", 1)), [(6, "ann", -8), (6, "ann", -8), (6, "ann", -4), (6, "ann", 4)])

    def test_items_are_kept_where_they_came(self):
        join = Join(3)
        all_made(join, COMING)
        self.assertEqual(join.sides[0].kept(), [("ann", 5, 3), ("ann", 11, 7), ("bob", 5, GREAT)])
        self.assertEqual(join.sides[1].kept(), [("ann", 5, 3), ("ann", 8, -1), ("bob", 8, 2)])

    def test_all_orders(self):
        for within in (0, 2, 3, 6, 100):
            wanted = made_by_words(COMING, within)
            for order in itertools.permutations(COMING):
                self.assertEqual(sorted(all_made(Join(within), order)), wanted)
        self.assertEqual(made_by_words(COMING, 3), [(5, "ann", 0), (8, "ann", 4), (8, "bob", GREAT - 2), (11, "ann", 8)])

    def test_each_of_many(self):
        chance = random.Random(32)
        for number in range(60):
            within = chance.choice([0, 1, 4, 9])
            coming = [(chance.randrange(2), (chance.randrange(20), chance.choice("ab"), chance.randrange(-3, 4)))
                      for place in range(30)]
            self.assertEqual(sorted(all_made(Join(within), coming)), made_by_words(coming, within))

    def test_drop(self):
        for within in (0, 2, 5):
            for now in range(0, 20):
                join = Join(within)
                for time in range(12):
                    join.come(0, (time, "ann", 1))
                    join.come(1, (time, "bob", 2))
                self.assertIsNone(join.drop(now))
                rest = [time for time in range(12) if time >= now - within]
                self.assertEqual(join.sides[0].kept(), [("ann", time, 1) for time in rest])
                self.assertEqual(join.sides[1].kept(), [("bob", time, 2) for time in rest])
                self.assertEqual(join.sides[0].rows, {"ann": [(time, 1) for time in rest]} if rest else {})

    def test_nothing_that_was_dropped_could_have_met(self):
        chance = random.Random(34)
        for number in range(60):
            within = chance.choice([0, 1, 4, 9])
            dropping = Join(within)
            keeping = Join(within)
            now = 0
            for place in range(40):
                side = chance.randrange(2)
                item = (now + chance.randrange(12), chance.choice("ab"), chance.randrange(-3, 4))
                self.assertEqual(dropping.come(side, item), keeping.come(side, item))
                now = now + chance.choice([0, 0, 1, 3])
                dropping.drop(now)

    def test_what_is_put_on_a_side_by_itself(self):
        join = Join(5)
        join.sides[0].put((10, "ann", 3))
        join.sides[1].put((11, "ann", 8))
        self.assertEqual(join.come(1, (12, "ann", 10)), [(12, "ann", -7)])
        self.assertEqual(join.come(0, (12, "ann", 10)), [(12, "ann", 0), (12, "ann", 2)])
        join.drop(16)
        self.assertEqual(join.sides[0].kept(), [("ann", 12, 10)])
        self.assertEqual(join.sides[1].kept(), [("ann", 11, 8), ("ann", 12, 10)])

    def test_told_lists_are_the_askers_own(self):
        join = Join(5)
        join.come(0, (10, "ann", 3))
        told = join.come(1, (10, "ann", 1))
        told.append("more")
        self.assertEqual(join.come(1, (10, "ann", 1)), [(10, "ann", 2)])
        self.assertEqual(told, [(10, "ann", 2), "more"])


if __name__ == "__main__":
    unittest.main()
