import itertools
import unittest

from brooktally.sides import Side

GREAT = 10 ** 19
ITEMS = [(5, "ann", 3), (5, "ann", 3), (2, "ann", 9), (5, "ann", -1), (7, "bob", GREAT), (0, "bob", -GREAT)]


def side_of(items):
    side = Side()
    for item in items:
        side.put(item)
    return side


class SideTest(unittest.TestCase):
    def test_a_new_one(self):
        side = Side()
        self.assertEqual((side.rows, side.kept(), side.near("ann", 0, 100)), ({}, [], []))
        self.assertIsNone(side.drop(5))
        self.assertEqual(side.rows, {})

    def test_alike_items_as_often_as_they_came(self):
        side = Side()
        for count in range(1, 4):
            self.assertIsNone(side.put((5, "ann", 3)))
            self.assertEqual(side.rows, {"ann": [(5, 3)] * count})
            self.assertEqual(side.kept(), [("ann", 5, 3)] * count)
            self.assertEqual(side.near("ann", 5, 5), [(5, 3)] * count)

    def test_rows_rise_in_all_orders(self):
        for order in itertools.permutations(ITEMS):
            side = side_of(order)
            self.assertEqual(side.rows, {"ann": [(2, 9), (5, -1), (5, 3), (5, 3)], "bob": [(0, -GREAT), (7, GREAT)]})
            self.assertEqual(side.kept(), [("ann", 2, 9), ("ann", 5, -1), ("ann", 5, 3), ("ann", 5, 3),
                                           ("bob", 0, -GREAT), ("bob", 7, GREAT)])

    def test_near(self):
        side = side_of(ITEMS)
        row = [(2, 9), (5, -1), (5, 3), (5, 3)]
        for low in range(-3, 10):
            for high in range(-3, 10):
                wanted = [pair for pair in row if low <= pair[0] <= high]
                self.assertEqual(side.near("ann", low, high), wanted, (low, high))
        self.assertEqual(side.near("ann", -GREAT, GREAT), row)
        self.assertEqual(side.near("ann", GREAT, -GREAT), [])
        self.assertEqual(side.near("ann", 5, 2), [])
        self.assertEqual(side.near("bob", 0, 0), [(0, -GREAT)])
        self.assertEqual(side.near("cid", 0, 9), [])
        self.assertEqual(sorted(side.rows), ["ann", "bob"])

    def test_drop(self):
        for least in range(-2, 10):
            side = side_of(ITEMS)
            self.assertIsNone(side.drop(least))
            rest = [item for item in ITEMS if item[0] >= least]
            self.assertEqual(side.rows, side_of(rest).rows)
            self.assertEqual(side.kept(), sorted((key, time, amount) for time, key, amount in rest))

    def test_drop_at_a_time(self):
        side = side_of([(5, "ann", 3)])
        side.drop(4)
        self.assertEqual(side.rows, {"ann": [(5, 3)]})
        side.drop(5)
        self.assertEqual(side.rows, {"ann": [(5, 3)]})
        side.drop(6)
        self.assertEqual((side.rows, side.kept(), side.near("ann", 0, 9)), ({}, [], []))
        side.put((1, "ann", 2))
        self.assertEqual(side.rows, {"ann": [(1, 2)]})

    def test_one_key_is_gone_the_other_stays(self):
        side = side_of([(5, "ann", 3), (8, "bob", 1), (2, "bob", 1)])
        side.drop(8)
        self.assertEqual(side.rows, {"bob": [(8, 1)]})

    def test_told_lists_are_the_askers_own(self):
        side = side_of(ITEMS)
        before = side.kept()
        near = side.near("ann", 0, 9)
        kept = list(near)
        near.clear()
        side.kept().clear()
        self.assertEqual(side.kept(), before)
        near.extend(kept)
        told = side.kept()
        side.put((3, "ann", 0))
        side.drop(4)
        self.assertEqual((near, told), (kept, before))


if __name__ == "__main__":
    unittest.main()
