import re
import unittest

from brooktally import errors
from brooktally.events import event_of, is_event, shown
from samples import Contrary, no_names, no_numbers

BILLION = 1000000000
# Of lines whose numbers have few figures: what the document's words say, told otherwise than the program tells it.
LINE = re.compile("(0|[1-9][0-9]*) [a-z]{1,12} [a-z]{1,12} (0|-?[1-9][0-9]*)")
GOOD = (12, "buy", "ann", -5)
EVENTS = [GOOD, (0, "a", "z", 0), (BILLION, "abcdefghijkl", "mnopqrstuvwx", BILLION), (1, "a", "a", -BILLION),
          (BILLION, "late", "late", 1), (7, "end", "clock", -1)]


class IsEventTest(unittest.TestCase):
    def test_events(self):
        for event in EVENTS:
            self.assertIs(is_event(event), True, event)

    def test_one_part_wrong(self):
        wrong = [no_numbers() + [-1, BILLION + 1], no_names(), no_names(),
                 no_numbers() + [-BILLION - 1, BILLION + 1]]
        for place, things in enumerate(wrong):
            for thing in things:
                parts = list(GOOD)
                parts[place] = thing
                self.assertIs(is_event(tuple(parts)), False, (place, repr(thing)))

    def test_another_length(self):
        for length in range(4):
            self.assertIs(is_event(GOOD[:length]), False)
        for more in (0, -5, "ann", None):
            self.assertIs(is_event(GOOD + (more,)), False)
        self.assertIs(is_event((0,) + GOOD), False)
        self.assertIs(is_event(GOOD + GOOD), False)

    def test_no_tuples(self):
        things = [list(GOOD), "12 buy ann -5", "abcd", dict(enumerate(GOOD)), set(GOOD), None, True, False, 0, 4, 1.5,
                  b"abcd", object(), range(4), iter(GOOD), is_event, Contrary(), [GOOD], (GOOD,)]
        for thing in things:
            self.assertIs(is_event(thing), False, repr(thing))

    def test_parts_out_of_order(self):
        self.assertIs(is_event(("buy", 12, "ann", -5)), False)
        self.assertIs(is_event((12, "buy", -5, "ann")), False)


class LineTest(unittest.TestCase):
    def test_shown(self):
        self.assertEqual(shown(GOOD), "12 buy ann -5")
        self.assertEqual(shown((0, "a", "z", 0)), "0 a z 0")
        self.assertEqual(shown((BILLION, "b", "c", -BILLION)), "1000000000 b c -1000000000")

    def test_read(self):
        event = event_of("12 buy ann -5")
        self.assertEqual(event, GOOD)
        self.assertIs(is_event(event), True)

    def test_written_and_read_back(self):
        for event in EVENTS:
            self.assertEqual(event_of(shown(event)), event)

    def test_lines_that_write_no_event(self):
        lines = ["", " ", "12", "12 buy", "12 buy ann", "buy ann -5", "12 buy ann -5 6", "0 12 buy ann -5",
                 "12  buy ann -5", "12 buy  ann -5", "12 buy ann  -5", " 12 buy ann -5", "12 buy ann -5 ",
                 "12\tbuy ann -5", "12 buy\tann -5", "12 buy ann\t-5", "12 buy ann -5\t", "\t12 buy ann -5",
                 "12 buy ann -5\n", "\n12 buy ann -5", "12\nbuy\nann\n-5", "12 buy\n ann -5", "12 buy ann\n -5",
                 "12 buy ann -5\n12 buy ann -5",
                 "-1 buy ann 5", "1000000001 buy ann 5", "12 buy ann 1000000001", "12 buy ann -1000000001",
                 "-0 buy ann 5", "012 buy ann 5", "+12 buy ann 5", "12 buy ann +5", "12 buy ann 05", "12 buy ann -0",
                 "x buy ann 5", "12 buy ann x", "12 buy ann -", "12.0 buy ann 5", "1_2 buy ann 5", "12 buy ann 5.0",
                 "12 Buy ann 5", "12 buy Ann 5", "12 buy2 ann 5", "12 buy an-n 5", "12 1 ann 5", "12 buy 1 5",
                 "12 abcdefghijklm ann 5", "12 buy abcdefghijklm 5", "12 buy,ann 5", "buy 12 ann 5",
                 "12 buy 5 ann", "(12, 'buy', 'ann', 5)", "0" * 61 + " buy ann 5", "12 buy ann " + "9" * 61]
        others = (errors.BadSlack, errors.Broken, errors.BadStep, errors.BadLine, errors.BadKeep)
        for line in lines:
            with self.assertRaises(errors.BadEvent, msg=repr(line)) as caught:
                event_of(line)
            self.assertIsInstance(caught.exception, errors.FlowError)
            self.assertIsInstance(caught.exception, ValueError)
            self.assertNotIsInstance(caught.exception, others)

    def test_any_sign_added_or_exchanged_anywhere_in_a_line(self):
        good = "12 buy ann -5"
        for sign in [chr(code) for code in range(32, 127)] + ["\n", "\t", ""]:
            for place in range(len(good) + 1):
                for rest in (good[place:], good[place + 1:]):
                    line = good[:place] + sign + rest
                    if LINE.fullmatch(line):
                        self.assertEqual(shown(event_of(line)), line)
                    else:
                        with self.assertRaises(errors.BadEvent, msg=repr(line)):
                            event_of(line)


if __name__ == "__main__":
    unittest.main()
