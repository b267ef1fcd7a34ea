import itertools
import unittest

from brooktally.pieces import parted, put_each, put_gap
from samples import tally_by_words

BILLION = 1000000000
WINDOWS = [(1, 1), (3, 1), (10, 10), (10, 5), (10, 3), (10, 7), (20, 1), (40, 2), (7, 6)]
# Some rows of (time, amount).
ROWS = [[], [(0, 5)], [(3, 1), (3, 1)], [(0, 1), (9, 2), (10, 3), (11, -4)], [(5, 1), (7, -2), (9, 3), (30, 4)],
        [(2, 2), (2, -2), (8, 10 ** 19), (1, -10 ** 19)], [(0, 1), (1, 1), (2, 1), (4, 1)],
        [(BILLION, 3), (BILLION - 6, 4), (0, 0)], [(10, 1), (20, 2), (15, 3)]]


def windows_by_words(rows, size, step):
    told = []
    numbers = set()
    for time, amount in rows:
        numbers.update(range(time // step - size // step - 2, time // step + 3))
    for number in sorted(numbers):
        start = number * step
        amounts = [amount for time, amount in rows if start <= time < start + size]
        if amounts:
            told.append((start, start + size, tally_by_words(amounts)))
    return told


def gaps_by_words(rows, most):
    parts = []
    for time, amount in sorted(rows):
        if not parts or time - parts[-1][-1][0] > most:
            parts.append([])
        parts[-1].append((time, amount))
    return [(part[0][0], part[-1][0] + most + 1, tally_by_words([amount for time, amount in part])) for part in parts]


def each_of(rows, size, step):
    pieces = []
    for time, amount in rows:
        pieces = put_each(pieces, time, amount, size, step)
    return pieces


def gap_of(rows, most):
    pieces = []
    for time, amount in rows:
        pieces = put_gap(pieces, time, amount, most)
    return pieces


class PutEachTest(unittest.TestCase):
    def test_size_alike_the_step(self):
        self.assertEqual(put_each([], 7, 5, 10, 10), [(0, 10, (1, 5, 5, 5))])
        self.assertEqual(put_each([], 0, 5, 10, 10), [(0, 10, (1, 5, 5, 5))])
        self.assertEqual(put_each([], 9, 5, 10, 10), [(0, 10, (1, 5, 5, 5))])
        self.assertEqual(put_each([], 10, 5, 10, 10), [(10, 20, (1, 5, 5, 5))])

    def test_windows_below_nought(self):
        one = (1, -2, -2, -2)
        self.assertEqual(put_each([], 0, -2, 10, 5), [(-5, 5, one), (0, 10, one)])
        self.assertEqual(put_each([], 0, -2, 10, 3), [(-9, 1, one), (-6, 4, one), (-3, 7, one), (0, 10, one)])
        self.assertEqual(put_each([], 4, -2, 10, 5), [(-5, 5, one), (0, 10, one)])
        self.assertEqual(put_each([], 5, -2, 10, 5), [(0, 10, one), (5, 15, one)])

    def test_added_where_a_window_is_there(self):
        pieces = each_of([(7, 5), (12, -1), (30, 2)], 10, 5)
        self.assertEqual(pieces, [(0, 10, (1, 5, 5, 5)), (5, 15, (2, 4, -1, 5)), (10, 20, (1, -1, -1, -1)),
                                  (25, 35, (1, 2, 2, 2)), (30, 40, (1, 2, 2, 2))])

    def test_put_ahead_of_others(self):
        pieces = each_of([(30, 2), (7, 5)], 10, 10)
        self.assertEqual(pieces, [(0, 10, (1, 5, 5, 5)), (30, 40, (1, 2, 2, 2))])

    def test_against_the_words_in_all_orders(self):
        for size, step in WINDOWS:
            for rows in ROWS:
                wanted = windows_by_words(rows, size, step)
                self.assertEqual([piece[0] for piece in wanted], sorted({piece[0] for piece in wanted}))
                for order in itertools.permutations(rows):
                    self.assertEqual(each_of(order, size, step), wanted, (order, size, step))

    def test_the_list_handed_in_stays(self):
        pieces = each_of([(7, 5), (12, -1)], 10, 5)
        before = list(pieces)
        for time in (0, 5, 7, 12, 100):
            told = put_each(pieces, time, 3, 10, 5)
            self.assertIsNot(told, pieces)
            told.clear()
            self.assertEqual(pieces, before)


class PutGapTest(unittest.TestCase):
    def test_one_item(self):
        for most in (0, 1, 7, 1000000):
            for time in (0, 5, BILLION):
                self.assertEqual(put_gap([], time, -3, most), [(time, time + most + 1, (1, -3, -3, -3))])

    def test_neighbours_just_most_apart(self):
        for most in (0, 1, 5):
            near = [(10, 10 + 2 * most + 1, (2, 3, 1, 2))]
            self.assertEqual(gap_of([(10, 1), (10 + most, 2)], most), near)
            self.assertEqual(gap_of([(10 + most, 2), (10, 1)], most), near)
            far = [(10, 10 + most + 1, (1, 1, 1, 1)), (10 + most + 1, 10 + 2 * most + 2, (1, 2, 2, 2))]
            self.assertEqual(gap_of([(10, 1), (10 + most + 1, 2)], most), far)
            self.assertEqual(gap_of([(10 + most + 1, 2), (10, 1)], most), far)

    def test_an_item_between_two(self):
        pieces = gap_of([(10, 1), (20, 2), (50, 9)], 5)
        self.assertEqual(len(pieces), 3)
        self.assertEqual(put_gap(pieces, 15, 4, 5), [(10, 26, (3, 7, 1, 4)), (50, 56, (1, 9, 9, 9))])
        self.assertEqual(put_gap(pieces, 14, 4, 5), [(10, 20, (2, 5, 1, 4)), (20, 26, (1, 2, 2, 2)), (50, 56, (1, 9, 9, 9))])
        self.assertEqual(put_gap(pieces, 16, 4, 5), [(10, 16, (1, 1, 1, 1)), (16, 26, (2, 6, 2, 4)), (50, 56, (1, 9, 9, 9))])

    def test_items_of_one_time(self):
        self.assertEqual(gap_of([(4, 1), (4, 1), (4, -8)], 0), [(4, 5, (3, -6, -8, 1))])
        self.assertEqual(gap_of([(4, 1), (5, 1), (4, -8)], 0), [(4, 5, (2, -7, -8, 1)), (5, 6, (1, 1, 1, 1))])

    def test_an_item_within_a_piece(self):
        pieces = gap_of([(10, 1), (14, 2), (18, 3)], 4)
        self.assertEqual(pieces, [(10, 23, (3, 6, 1, 3))])
        for time in range(10, 19):
            self.assertEqual(put_gap(pieces, time, 0, 4), [(10, 23, (4, 6, 0, 3))])

    def test_against_the_words_in_all_orders(self):
        for most in (0, 1, 2, 4, 5, 20, 1000000):
            for rows in ROWS:
                wanted = gaps_by_words(rows, most)
                for order in itertools.permutations(rows):
                    pieces = gap_of(order, most)
                    self.assertEqual(pieces, wanted, (order, most))
                for one, other in zip(wanted, wanted[1:]):
                    self.assertGreaterEqual(other[0], one[1])

    def test_the_list_handed_in_stays(self):
        pieces = gap_of([(10, 1), (20, 2), (50, 9)], 5)
        before = list(pieces)
        for time in (0, 10, 15, 20, 21, 100):
            told = put_gap(pieces, time, 3, 5)
            self.assertIsNot(told, pieces)
            told.clear()
            self.assertEqual(pieces, before)


class PartedTest(unittest.TestCase):
    PIECES = [(-5, 5, (1, 1, 1, 1)), (0, 10, (2, 3, 1, 2)), (5, 15, (1, 7, 7, 7)), (10, 20, (1, 0, 0, 0))]

    def test_at_the_ends(self):
        for cut, piece in enumerate(self.PIECES):
            end = piece[1]
            self.assertEqual(parted(self.PIECES, end - 1), (self.PIECES[:cut], self.PIECES[cut:]))
            self.assertEqual(parted(self.PIECES, end), (self.PIECES[:cut + 1], self.PIECES[cut + 1:]))
            self.assertEqual(parted(self.PIECES, end + 1), (self.PIECES[:cut + 1], self.PIECES[cut + 1:]))

    def test_none_and_all(self):
        self.assertEqual(parted([], 5), ([], []))
        self.assertEqual(parted(self.PIECES, 0), ([], self.PIECES))
        self.assertEqual(parted(self.PIECES, BILLION), (self.PIECES, []))

    def test_each_keeps_its_order(self):
        mixed = [(0, 9, 1), (1, 30, 2), (2, 8, 3), (3, 31, 4), (4, 9, 5)]
        self.assertEqual(parted(mixed, 9), ([mixed[0], mixed[2], mixed[4]], [mixed[1], mixed[3]]))

    def test_what_is_handed_in_stays(self):
        pieces = list(self.PIECES)
        for now in (0, 10, 100):
            pair = parted(pieces, now)
            self.assertIs(type(pair), tuple)
            self.assertEqual([type(part) for part in pair], [list, list])
            for part in pair:
                self.assertIsNot(part, pieces)
                part.append("more")
            self.assertEqual(pieces, self.PIECES)


if __name__ == "__main__":
    unittest.main()
