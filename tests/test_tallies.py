import itertools
import unittest

from brooktally.tallies import added, tally_of, value
from samples import tally_by_words

GREAT = 10 ** 18
ROWS = [[0], [5], [-5], [1, 2], [2, 1], [-3, 3, -3], [7, 7, 7, 7], [0, -1, 1], [GREAT + 1, -GREAT - 2, 3],
        [10 ** 40, 10 ** 40, -10 ** 41], [-1000000000, 1000000000, 0, -1]]


def together(amounts):
    tally = tally_of(amounts[0])
    for amount in amounts[1:]:
        tally = added(tally, tally_of(amount))
    return tally


class TalliesTest(unittest.TestCase):
    def test_one_amount(self):
        for amount in (0, 1, -1, 1000000000, -1000000000, GREAT + 1, -GREAT - 1, 10 ** 50):
            tally = tally_of(amount)
            self.assertEqual(tally, (1, amount, amount, amount))
            self.assertIs(type(tally), tuple)

    def test_two_added(self):
        self.assertEqual(added(tally_of(3), tally_of(8)), (2, 11, 3, 8))
        self.assertEqual(added(tally_of(8), tally_of(3)), (2, 11, 3, 8))
        self.assertEqual(added(tally_of(-8), tally_of(-3)), (2, -11, -8, -3))
        self.assertEqual(added((2, 5, -1, 6), (3, -9, -7, 2)), (5, -4, -7, 6))
        self.assertEqual(added((2, 5, -1, 6), (1, 0, 0, 0)), (3, 5, -1, 6))
        self.assertIs(type(added(tally_of(1), tally_of(2))), tuple)

    def test_in_any_order(self):
        for amounts in ROWS:
            for order in itertools.permutations(amounts):
                self.assertEqual(together(order), tally_by_words(amounts))

    def test_in_any_grouping(self):
        for amounts in ROWS:
            for cut in range(1, len(amounts)):
                one = together(amounts[:cut])
                other = together(amounts[cut:])
                self.assertEqual(added(one, other), tally_by_words(amounts))
                self.assertEqual(added(other, one), tally_by_words(amounts))

    def test_what_is_added_stays(self):
        one = (2, 5, -1, 6)
        other = (3, -9, -7, 2)
        added(one, other)
        self.assertEqual((one, other), ((2, 5, -1, 6), (3, -9, -7, 2)))

    def test_values(self):
        self.assertEqual([value(sort, (4, -9, -7, 2)) for sort in ("count", "sum", "least", "greatest")], [4, -9, -7, 2])
        for amounts in ROWS:
            tally = together(amounts)
            self.assertEqual(value("count", tally), len(amounts))
            self.assertEqual(value("sum", tally), sum(amounts))
            self.assertEqual(value("least", tally), min(amounts))
            self.assertEqual(value("greatest", tally), max(amounts))


if __name__ == "__main__":
    unittest.main()
