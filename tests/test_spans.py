import unittest

from brooktally.spans import meets, starts

BILLION = 1000000000
# Sizes alike the step, multiples of it and none, and 20 times the step.
WINDOWS = [(1, 1), (2, 1), (20, 1), (10, 10), (10, 5), (10, 3), (10, 7), (7, 4), (7, 6), (40, 2), (39, 2), (60, 3),
           (1000000, 50000), (1000000, 999999), (999999, 50000)]


def starts_by_words(time, size, step):
    least = -(size // step + 2) + time // step
    return [number * step for number in range(least, time // step + 3) if number * step <= time < number * step + size]


class StartsTest(unittest.TestCase):
    def test_plain_ones(self):
        self.assertEqual(starts(7, 10, 5), [0, 5])
        self.assertEqual(starts(10, 10, 5), [5, 10])
        self.assertEqual(starts(9, 10, 10), [0])
        self.assertEqual(starts(10, 10, 10), [10])
        self.assertEqual(starts(12, 7, 3), [6, 9, 12])
        self.assertEqual(starts(13, 7, 3), [9, 12])
        self.assertEqual(starts(100, 20, 1), list(range(81, 101)))

    def test_below_nought(self):
        self.assertEqual(starts(0, 10, 5), [-5, 0])
        self.assertEqual(starts(4, 10, 3), [-3, 0, 3])
        self.assertEqual(starts(0, 20, 1), list(range(-19, 1)))
        self.assertEqual(starts(0, 1, 1), [0])
        self.assertEqual(starts(0, 10, 10), [0])
        self.assertEqual(starts(0, 10, 7), [-7, 0])
        self.assertEqual(starts(2, 7, 6), [0])

    def test_against_the_words(self):
        for size, step in WINDOWS:
            times = set(range(40))
            for multiple in (0, 1, 2, 3, 19, 20, 21, 100, BILLION // step):
                times.update(multiple * step + more for more in (-1, 0, 1))
                times.update(multiple * step + size + more for more in (-1, 0, 1))
            for time in sorted(times):
                if 0 <= time <= BILLION:
                    told = starts(time, size, step)
                    self.assertIs(type(told), list)
                    self.assertEqual(told, starts_by_words(time, size, step), (time, size, step))
                    self.assertEqual(told, sorted(set(told)))
                    self.assertTrue(1 <= len(told) <= 20)

    def test_told_lists_are_the_askers_own(self):
        told = starts(7, 10, 5)
        told.append(9)
        self.assertEqual(starts(7, 10, 5), [0, 5])


class MeetsTest(unittest.TestCase):
    def test_borders(self):
        for most in (0, 1, 5, 1000000):
            for start in (-20, -1, 0, 7, BILLION):
                for last in (start, start + 1, start + 12):
                    end = last + most + 1
                    told = [meets(start, end, time, most) for time in
                            (start - most - 1, start - most, start, last, last + most, last + most + 1)]
                    self.assertEqual(told, [False, True, True, True, True, False], (most, start, last))
                    self.assertTrue(all(type(answer) is bool for answer in told))

    def test_plain_ones(self):
        self.assertIs(meets(10, 16, 5, 5), True)
        self.assertIs(meets(10, 16, 4, 5), False)
        self.assertIs(meets(10, 16, 15, 5), True)
        self.assertIs(meets(10, 16, 16, 5), False)

    def test_most_nought(self):
        self.assertEqual([meets(3, 4, time, 0) for time in (2, 3, 4)], [False, True, False])
        self.assertEqual([meets(-3, -1, time, 0) for time in (-4, -3, -2, -1)], [False, True, True, False])

    def test_against_the_words_with_any_numbers(self):
        some = range(-6, 7)
        for start in some:
            for end in some:
                for time in some:
                    for most in range(-3, 5):
                        last = end - most - 1
                        belongs = start - time <= most and time - last <= most
                        self.assertIs(meets(start, end, time, most), belongs, (start, end, time, most))

    def test_great_numbers(self):
        great = 10 ** 30
        self.assertIs(meets(great, great + 1, great, 0), True)
        self.assertIs(meets(great, great + 1, great + 1, 0), False)
        self.assertIs(meets(-great, great, 0, 5), True)
        self.assertIs(meets(-great, great, great, great), False)
        self.assertIs(meets(-great, great, great - 1, great), True)


if __name__ == "__main__":
    unittest.main()
