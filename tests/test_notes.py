import unittest

from brooktally import errors
from brooktally.notes import plan_of, written
from samples import STEPS, doubled, name_at

LINES = ["buys take buy", "great only buys 5 10", "back turn buys -1 0", "all both buys back", "met join buys back 60",
         "perday each buys sum 10 5", "visits gap buys count 30"]
# The places of the numbers among the words of each of LINES.
NUMBERS = [(), (3, 4), (3, 4), (), (4,), (4, 5), (4,)]
NO_NUMBERS = ["", "+5", "05", "00", "-0", "-05", "5.0", "5,", "1_0", "5e0", "0x5", "--5", "-", "five", "None", "True",
              "\t5", "5\n", "1" + "0" * 60, "0" * 60 + "5"]
BILLION = 1000000000


class WrittenTest(unittest.TestCase):
    def test_each_step(self):
        before = list(STEPS)
        self.assertEqual(written(STEPS), LINES)
        self.assertEqual(STEPS, before)

    def test_the_empty_plan(self):
        self.assertEqual(written([]), [])
        self.assertEqual(plan_of([]), [])

    def test_numbers_at_their_bounds(self):
        plan = [("take", "a", "take"), ("only", "b", "a", -BILLION, BILLION), ("turn", "c", "a", -9, -BILLION),
                ("turn", "d", "a", 9, BILLION), ("join", "e", "a", "a", 0), ("join", "f", "a", "b", 1000000),
                ("each", "g", "a", "least", 1000000, 50000), ("gap", "h", "f", "greatest", 1000000),
                ("gap", "abcdefghijkl", "a", "sum", 0), ("each", "i", "a", "count", 1, 1)]
        lines = ["a take take", "b only a -1000000000 1000000000", "c turn a -9 -1000000000", "d turn a 9 1000000000",
                 "e join a a 0", "f join a b 1000000", "g each a least 1000000 50000", "h gap f greatest 1000000",
                 "abcdefghijkl gap a sum 0", "i each a count 1 1"]
        self.assertEqual(written(plan), lines)
        self.assertEqual(plan_of(lines), plan)

    def test_told_lists_are_the_askers_own(self):
        told = written(STEPS)
        told.append("more")
        self.assertEqual(written(STEPS), LINES)
        lines = list(LINES)
        plan = plan_of(lines)
        plan.pop()
        lines.pop()
        self.assertEqual(plan_of(LINES), STEPS)


class ReadTest(unittest.TestCase):
    def assert_refused(self, error, place, lines):
        before = list(lines)
        with self.assertRaises(error, msg=lines) as caught:
            plan_of(lines)
        self.assertIs(type(caught.exception), error)
        self.assertEqual(caught.exception.place, place, lines)
        self.assertEqual(lines, before)

    def assert_no_step(self, line):
        self.assert_refused(errors.BadLine, 0, [line])
        self.assert_refused(errors.BadLine, len(LINES), LINES + [line])
        self.assert_refused(errors.BadLine, 1, LINES[:1] + [line] + LINES[1:])

    def test_read(self):
        lines = list(LINES)
        plan = plan_of(lines)
        self.assertEqual(plan, STEPS)
        self.assertIs(type(plan), list)
        self.assertTrue(all(type(step) is tuple for step in plan))
        self.assertEqual(lines, LINES)

    def test_written_and_read_back(self):
        for plan in ([], STEPS, STEPS[:1], doubled("both", 5), doubled("join", 5),
                     [("take", name_at(place), "buy") for place in range(30)]):
            self.assertEqual(plan_of(written(plan)), plan)

    def test_a_word_more_or_less(self):
        for line in LINES:
            words = line.split(" ")
            for place in range(len(words)):
                self.assert_no_step(" ".join(words[:place] + words[place + 1:]))
            for place in range(len(words) + 1):
                for more in ("more", "5", "sum", "take"):
                    self.assert_no_step(" ".join(words[:place] + [more] + words[place:]))

    def test_blanks_and_other_signs(self):
        for line in LINES:
            for place in range(len(line)):
                if line[place] == " ":
                    for instead in ("  ", "\t", "\n", "", "_", " \t", "\n ", ","):
                        self.assert_no_step(line[:place] + instead + line[place + 1:])
            for more in (" ", "\t", "\n", "  ", "\r", ".", "-"):
                self.assert_no_step(more + line)
                self.assert_no_step(line + more)

    def test_odd_lines(self):
        for line in ("", " ", "\n", "take", "buys", "buys take", "take buys buy", "5", "end 0", "a b c", "x takes buy",
                     "x Take buy", "x TAKE buy", "x window buys 5", "x each", "x  take buy", "('take', 'x', 'buy')"):
            self.assert_no_step(line)

    def test_unknown_first_words(self):
        for line in LINES:
            words = line.split(" ")
            for word in ("", "tak", "takes", "Each", "EACH", "tell", "sum", "1", words[0]):
                self.assert_no_step(" ".join([words[0], word] + words[2:]))

    def test_names_that_are_none(self):
        for line, numbers in zip(LINES, NUMBERS):
            words = line.split(" ")
            for place in range(len(words)):
                if place != 1 and place not in numbers:
                    for name in ("", "A", "a1", "1", "0", "-1", "abcdefghijklm", "a-b", "a_b", "*", "Sum"):
                        self.assert_no_step(" ".join(words[:place] + [name] + words[place + 1:]))

    def test_numbers_written_otherwise(self):
        for line, numbers in zip(LINES, NUMBERS):
            words = line.split(" ")
            for place in numbers:
                for number in NO_NUMBERS + [words[place] + ".", "0" + words[place], "+" + words[place]]:
                    self.assert_no_step(" ".join(words[:place] + [number] + words[place + 1:]))

    def test_numbers_out_of_their_bounds(self):
        for line in ("x only buys 2 1", "x only buys -1000000001 0", "x only buys 0 1000000001", "x turn buys 10 0",
                     "x turn buys -10 0", "x turn buys 1 1000000001", "x turn buys 1 -1000000001", "x join buys buys -1",
                     "x join buys buys 1000001", "x each buys sum 0 0", "x each buys sum 5 0", "x each buys sum 5 6",
                     "x each buys sum 21 1", "x each buys sum 1000001 1000001", "x each buys sum -5 -5",
                     "x gap buys sum -1", "x gap buys sum 1000001", "x gap buys most 5", "x each buys total 5 5"):
            self.assert_no_step(line)

    def test_bad_line_stands_ahead_of_bad_step(self):
        unfed = "low only nobody 1 2"
        twice = "buys take other"
        for wrong in (unfed, twice):
            self.assert_refused(errors.BadStep, 1, LINES[:1] + [wrong])
            self.assert_refused(errors.BadStep, 1, LINES[:1] + [wrong] + LINES[1:])
            self.assert_refused(errors.BadLine, 2, LINES[:1] + [wrong, "odd"])
            self.assert_refused(errors.BadLine, 3, LINES[:1] + [wrong, wrong, "odd", "odder"])
        self.assert_refused(errors.BadStep, 0, [unfed, LINES[0]])
        self.assert_refused(errors.BadStep, 0, ["perday each buys sum 10 5", "buys take buy"])
        self.assert_refused(errors.BadStep, 6, written(doubled("both", 6)))

    def test_thirty_and_more_lines(self):
        lines = [name_at(place) + " take buy" for place in range(31)]
        self.assertEqual(len(plan_of(lines[:30])), 30)
        self.assert_refused(errors.BadStep, None, lines)
        self.assert_refused(errors.BadStep, None, ["same take buy"] * 31)
        self.assert_refused(errors.BadLine, 31, lines + ["odd"])
        self.assert_refused(errors.BadLine, 4, lines[:4] + ["odd"] + lines[5:])


if __name__ == "__main__":
    unittest.main()
