import itertools
import random
import unittest

from brooktally.groups import Group
from samples import value_by_words, windows_by_words

GREAT = 10 ** 18
DAYS = ("each", "days", "buys", "sum", 10, 5)
REST = ("gap", "rest", "buys", "count", 5)
STEPS = [DAYS, REST, ("each", "full", "buys", "least", 10, 10), ("each", "odd", "buys", "greatest", 7, 3),
         ("gap", "same", "buys", "sum", 0), ("gap", "low", "buys", "least", 2), ("gap", "high", "buys", "greatest", 3),
         ("each", "many", "buys", "count", 20, 1)]
ITEMS = [(3, "ann", 5), (12, "bob", -1), (4, "ann", 2), (0, "cid", GREAT + 3), (9, "bob", 7), (20, "ann", -GREAT)]


def group_of(step, items):
    group = Group(step)
    for item in items:
        group.put(item)
    return group


def rows_by_words(step, items):
    told = []
    for key in sorted({item[1] for item in items}):
        own = [item for item in items if item[1] == key]
        for start, end in windows_by_words(step, [item[0] for item in own]):
            value = value_by_words(step[3], [item[2] for item in own if start <= item[0] < end])
            told.append((step[1], key, start, end, value))
    return sorted(told, key=lambda row: (row[3], row[1], row[2]))


class GroupTest(unittest.TestCase):
    def test_a_new_one(self):
        for step in STEPS:
            group = Group(step)
            self.assertEqual((group.rows, group.pieces(), group.close(50), group.close(None)), ({}, [], [], []))
            self.assertEqual(group.rows, {})

    def test_rows_by_keys(self):
        group = Group(DAYS)
        self.assertIsNone(group.put((7, "bob", 5)))
        self.assertIsNone(group.put((7, "ann", 2)))
        group.put((12, "bob", -1))
        self.assertEqual(group.rows, {"bob": [(0, 10, (1, 5, 5, 5)), (5, 15, (2, 4, -1, 5)), (10, 20, (1, -1, -1, -1))],
                                      "ann": [(0, 10, (1, 2, 2, 2)), (5, 15, (1, 2, 2, 2))]})

    def test_pieces_rise_by_key_and_start(self):
        group = group_of(DAYS, [(7, "bob", 5), (7, "ann", 2), (0, "bob", 1)])
        self.assertEqual(group.pieces(), [
            ("ann", 0, 10, (1, 2, 2, 2)), ("ann", 5, 15, (1, 2, 2, 2)), ("bob", -5, 5, (1, 1, 1, 1)),
            ("bob", 0, 10, (2, 6, 1, 5)), ("bob", 5, 15, (1, 5, 5, 5))])
        self.assertEqual(group_of(REST, [(9, "b", 1), (1, "b", 2), (5, "a", 3)]).pieces(),
                         [("a", 5, 11, (1, 3, 3, 3)), ("b", 1, 7, (1, 2, 2, 2)), ("b", 9, 15, (1, 1, 1, 1))])

    def test_the_order_of_rows(self):
        group = group_of(("gap", "rest", "buys", "sum", 5), [(9, "b", 1), (9, "a", 2), (3, "c", 3), (2, "c", 4), (1, "d", 5)])
        self.assertEqual(group.close(None), [("rest", "d", 1, 7, 5), ("rest", "c", 2, 9, 7), ("rest", "a", 9, 15, 2),
                                             ("rest", "b", 9, 15, 1)])

    def test_rows_of_one_end_and_key_by_start(self):
        # A keep may hold pieces that no items make; they stand in order all the same.
        group = Group(REST)
        group.rows["a"] = [(1, 9, (1, 1, 1, 1)), (2, 9, (2, 2, 1, 1)), (3, 8, (3, 3, 1, 1))]
        self.assertEqual(group.close(9), [("rest", "a", 3, 8, 3), ("rest", "a", 1, 9, 1), ("rest", "a", 2, 9, 2)])

    def test_the_four_tallies(self):
        items = [(3, "a", 5), (4, "a", -7), (4, "a", 5)]
        for sort, number in (("count", 3), ("sum", 3), ("least", -7), ("greatest", 5)):
            self.assertEqual(group_of(("each", "t", "s", sort, 10, 10), items).close(None), [("t", "a", 0, 10, number)])
            self.assertEqual(group_of(("gap", "t", "s", sort, 4), items).close(None), [("t", "a", 3, 9, number)])

    def test_closing_at_an_end(self):
        items = [(3, "a", 5), (14, "b", 6)]
        for step, ends in ((("each", "t", "s", "sum", 10, 10), (10, 20)), (("gap", "t", "s", "sum", 4), (8, 19))):
            group = group_of(step, items)
            self.assertEqual(group.close(0), [])
            self.assertEqual(group.close(ends[0] - 1), [])
            self.assertEqual(sorted(group.rows), ["a", "b"])
            self.assertEqual([row[1] for row in group.close(ends[0])], ["a"])
            self.assertEqual(list(group.rows), ["b"])
            self.assertEqual(group.close(ends[0]), [])
            self.assertEqual(group.close(ends[1] - 1), [])
            self.assertEqual([row[1] for row in group.close(ends[1])], ["b"])
            self.assertEqual(group.rows, {})
            self.assertEqual(group.close(None), [])

    def test_a_key_keeps_what_is_open(self):
        group = group_of(DAYS, [(7, "bob", 5), (12, "bob", -1)])
        self.assertEqual(group.close(10), [("days", "bob", 0, 10, 5)])
        self.assertEqual(group.rows, {"bob": [(5, 15, (2, 4, -1, 5)), (10, 20, (1, -1, -1, -1))]})
        group.put((14, "bob", 3))
        self.assertEqual(group.close(15), [("days", "bob", 5, 15, 7)])
        self.assertEqual(group.close(None), [("days", "bob", 10, 20, 2)])
        self.assertEqual((group.rows, group.pieces()), ({}, []))

    def test_closing_at_none_twice_and_items_behind_it(self):
        group = group_of(DAYS, ITEMS)
        self.assertNotEqual(group.close(None), [])
        self.assertEqual(group.close(None), [])
        group.put((30, "eve", 4))
        self.assertEqual(group.close(None), [("days", "eve", 25, 35, 4), ("days", "eve", 30, 40, 4)])

    def test_all_orders(self):
        for step in STEPS:
            pieces = group_of(step, ITEMS).pieces()
            rows = rows_by_words(step, ITEMS)
            for order in itertools.permutations(ITEMS):
                group = group_of(step, order)
                self.assertEqual(group.pieces(), pieces)
                self.assertEqual(group.close(None), rows)

    def test_closings_together_are_closing_once(self):
        chance = random.Random(30)
        for step in STEPS * 12:
            items = sorted((chance.randrange(60), chance.choice(["a", "b", "c"]), chance.randrange(-9, 10))
                           for number in range(chance.randrange(25)))
            group = Group(step)
            told = []
            now = 0
            for item in items:
                if chance.random() < 0.5:
                    now = chance.randrange(now, item[0] + 1)
                    told.extend(group.close(now))
                    self.assertTrue(all(piece[2] > now for piece in group.pieces()))
                    self.assertTrue(all(group.rows.values()))
                group.put(item)
            told.extend(group.close(None))
            self.assertEqual(group.rows, {})
            self.assertEqual(len(told), len(set(told)))
            wanted = rows_by_words(step, items)
            self.assertEqual(sorted(told), sorted(wanted))
            self.assertEqual([row[3] for row in told], sorted(row[3] for row in told))
            self.assertEqual(group_of(step, items).close(None), wanted)

    def test_amounts_beyond_all_bounds(self):
        group = group_of(("each", "t", "s", "sum", 10, 10), [(1, "a", GREAT), (2, "a", GREAT * GREAT), (3, "a", -1)])
        self.assertEqual(group.close(None), [("t", "a", 0, 10, GREAT + GREAT * GREAT - 1)])

    def test_told_lists_are_the_askers_own(self):
        group = group_of(DAYS, ITEMS)
        before = group.pieces()
        told = group.pieces()
        told.clear()
        self.assertEqual(group.pieces(), before)
        rows = group.close(10)
        kept = list(rows)
        later = group.pieces()
        rows.append("more")
        self.assertEqual(group.pieces(), later)
        group.put((40, "ann", 1))
        group.close(None)
        self.assertEqual(rows, kept + ["more"])
        self.assertIs(type(kept[0]), tuple)


if __name__ == "__main__":
    unittest.main()
