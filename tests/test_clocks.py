import itertools
import random
import unittest

from brooktally import errors
from brooktally.clocks import Clock, late_places
from samples import late_by_words, no_numbers

BILLION = 1000000000
NO_SLACKS = no_numbers() + [-1, -BILLION, BILLION + 1, 10 ** 30]


def some_rows():
    rows = [list(row) for length in range(5) for row in itertools.product(range(4), repeat=length)]
    chance = random.Random(20)
    rows += [[chance.randrange(30) for place in range(chance.randrange(40))] for number in range(40)]
    return rows + [[BILLION, 0, BILLION - 1, BILLION], [0, BILLION, 0, 1], [BILLION, BILLION], [5, 4, 3, 2, 1, 0]]


class ClockTest(unittest.TestCase):
    def assert_told(self, clock, now, count):
        self.assertEqual((clock.now, clock.count), (now, count))
        self.assertEqual([type(clock.now), type(clock.count), type(clock.slack)], [int, int, int])

    def test_slacks(self):
        for slack in (0, 1, 5, BILLION - 1, BILLION):
            clock = Clock(slack)
            self.assertEqual(clock.slack, slack)
            self.assert_told(clock, 0, 0)

    def test_no_slacks(self):
        for thing in NO_SLACKS:
            for make in (Clock, lambda slack: late_places(slack, [1, 2]), lambda slack: late_places(slack, [])):
                with self.assertRaises(errors.BadSlack, msg=repr(thing)) as caught:
                    make(thing)
                self.assertIs(type(caught.exception), errors.BadSlack)

    def test_as_long_as_no_time_is_greater_than_the_slack(self):
        clock = Clock(10)
        for count, time in enumerate((0, 9, 10, 3, 0), start=1):
            self.assertIs(clock.admit(time), True)
            self.assert_told(clock, 0, count)
        self.assertIs(clock.admit(11), True)
        self.assert_told(clock, 1, 6)
        self.assertIs(clock.admit(0), False)
        self.assert_told(clock, 1, 7)
        self.assertIs(clock.admit(1), True)
        self.assert_told(clock, 1, 8)

    def test_just_the_slack_behind(self):
        for slack in (0, 1, 7, 1000):
            for greatest in (2000, 2001, BILLION):
                for behind, admitted in ((slack - 1, True), (slack, True), (slack + 1, False), (greatest, False)):
                    clock = Clock(slack)
                    self.assertIs(clock.admit(greatest), True)
                    self.assert_told(clock, greatest - slack, 1)
                    self.assertIs(clock.admit(greatest - behind), admitted, (slack, greatest, behind))
                    moved = 1 if behind == -1 else 0
                    self.assert_told(clock, greatest - slack + moved, 2)
                    self.assertEqual(clock.slack, slack)

    def test_no_slack(self):
        clock = Clock(0)
        told = [clock.admit(time) for time in (0, 0, 5, 4, 5, 6, 5, BILLION, BILLION - 1, BILLION)]
        self.assertEqual(told, [True, True, True, False, True, True, False, True, False, True])
        self.assert_told(clock, BILLION, 10)

    def test_the_greatest_slack(self):
        clock = Clock(BILLION)
        for time in (BILLION, 0, 1, BILLION, 0):
            self.assertIs(clock.admit(time), True)
        self.assert_told(clock, 0, 5)

    def test_late_times_change_nothing_but_the_count(self):
        clock = Clock(2)
        clock.admit(10)
        for count, time in enumerate((7, 0, 5, 7), start=2):
            self.assertIs(clock.admit(time), False)
            self.assert_told(clock, 8, count)

    def test_against_the_words(self):
        for slack in (0, 1, 2, 10, BILLION):
            for times in some_rows():
                clock = Clock(slack)
                for place, time in enumerate(times):
                    ahead = clock.now
                    admitted = clock.admit(time)
                    self.assertIs(admitted, place not in late_by_words(slack, times[:place + 1]))
                    self.assertGreaterEqual(clock.now, ahead)
                    self.assert_told(clock, max(0, max(times[:place + 1]) - slack), place + 1)
                    if admitted:
                        self.assertGreaterEqual(time, clock.now)


class LatePlacesTest(unittest.TestCase):
    def test_against_the_words(self):
        for slack in (0, 1, 2, 3, 10, BILLION):
            for times in some_rows():
                before = list(times)
                self.assertEqual(late_places(slack, times), late_by_words(slack, times), (slack, times))
                self.assertEqual(times, before)

    def test_told_lists_are_the_askers_own(self):
        times = [5, 1, 2]
        told = late_places(0, times)
        self.assertEqual(told, [1, 2])
        self.assertIsNot(told, times)
        told.append(9)
        self.assertEqual(late_places(0, times), [1, 2])


if __name__ == "__main__":
    unittest.main()
