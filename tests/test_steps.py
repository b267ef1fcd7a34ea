import unittest

from brooktally.steps import feeders, is_step, is_teller, name_of
from samples import STEPS, Contrary, no_names, no_numbers

BILLION = 1000000000
MILLION = 1000000
TALLIES = ("count", "sum", "least", "greatest")
NAME_PLACES = {"take": (1, 2), "only": (1, 2), "turn": (1, 2), "both": (1, 2, 3), "join": (1, 2, 3),
               "each": (1, 2), "gap": (1, 2)}
TALLY_PLACES = {"each": (3,), "gap": (3,)}
NUMBER_PLACES = {"only": (3, 4), "turn": (3, 4), "join": (4,), "each": (4, 5), "gap": (4,)}


def changed(step, place, part):
    return step[:place] + (part,) + step[place + 1:]


class IsStepTest(unittest.TestCase):
    def assert_good(self, *steps):
        for step in steps:
            self.assertIs(is_step(step), True, step)

    def assert_bad(self, *things):
        for thing in things:
            self.assertIs(is_step(thing), False, repr(thing))

    def test_each_of_the_seven(self):
        self.assert_good(*STEPS)

    def test_alike_names_are_the_plans_affair(self):
        self.assert_good(("take", "a", "a"), ("both", "a", "b", "b"), ("join", "a", "a", "a", 0), ("only", "a", "a", 0, 0))

    def test_only(self):
        for low, high in ((-BILLION, BILLION), (0, 0), (-BILLION, -BILLION), (BILLION, BILLION), (-1, 0)):
            self.assert_good(("only", "a", "b", low, high))
        for low, high in ((1, 0), (BILLION, -BILLION), (-BILLION - 1, 0), (0, BILLION + 1),
                          (BILLION + 1, BILLION + 1), (-BILLION - 1, -BILLION - 1), (BILLION, BILLION - 1)):
            self.assert_bad(("only", "a", "b", low, high))

    def test_turn(self):
        for times in (-9, -1, 0, 1, 9):
            for more in (-BILLION, 0, BILLION):
                self.assert_good(("turn", "a", "b", times, more))
        self.assert_bad(("turn", "a", "b", -10, 0), ("turn", "a", "b", 10, 0),
                        ("turn", "a", "b", 1, -BILLION - 1), ("turn", "a", "b", 1, BILLION + 1))

    def test_join(self):
        for within in (0, 1, MILLION - 1, MILLION):
            self.assert_good(("join", "a", "b", "c", within))
        for within in (-1, MILLION + 1, BILLION):
            self.assert_bad(("join", "a", "b", "c", within))

    def test_each_windows(self):
        for size, step in ((1, 1), (2, 1), (20, 1), (21, 2), (40, 2), (10, 10), (MILLION, MILLION), (MILLION, 50000),
                           (999999, 50000), (MILLION, 999999)):
            self.assert_good(("each", "a", "b", "count", size, step))
        for size, step in ((0, 0), (0, 1), (1, 0), (20, 0), (-1, -1), (10, -1), (10, 11), (1, 2), (21, 1), (41, 2),
                           (MILLION, 49999), (MILLION + 1, MILLION), (MILLION + 1, MILLION + 1), (MILLION, MILLION + 1)):
            self.assert_bad(("each", "a", "b", "count", size, step))

    def test_gap(self):
        for most in (0, 1, MILLION - 1, MILLION):
            self.assert_good(("gap", "a", "b", "least", most))
        for most in (-1, MILLION + 1):
            self.assert_bad(("gap", "a", "b", "least", most))

    def test_tallies(self):
        for tally in TALLIES:
            self.assert_good(("each", "a", "b", tally, 10, 5), ("gap", "a", "b", tally, 10))
        for tally in ("", "Count", "counts", "coun", "sums", "sum ", "min", "greates", "most", "take", "a",
                      None, True, False, 0, ["sum"], ("sum",), TALLIES, b"sum", Contrary()):
            self.assert_bad(("each", "a", "b", tally, 10, 5), ("gap", "a", "b", tally, 10))

    def test_names_at_their_bounds(self):
        for step in STEPS:
            for place in NAME_PLACES[step[0]]:
                for name in ("a", "z", "abcdefghijkl", "take", "sum"):
                    self.assert_good(changed(step, place, name))

    def test_parts_of_another_kind(self):
        for step in STEPS:
            for place in NAME_PLACES[step[0]]:
                self.assert_bad(*[changed(step, place, thing) for thing in no_names()])
            for place in TALLY_PLACES.get(step[0], ()):
                self.assert_bad(*[changed(step, place, thing) for thing in no_numbers() + no_names()])
            for place in NUMBER_PLACES.get(step[0], ()):
                self.assert_bad(*[changed(step, place, thing) for thing in no_numbers()])

    def test_truths_are_no_numbers(self):
        self.assert_bad(("only", "a", "b", False, True), ("only", "a", "b", 0, True), ("only", "a", "b", False, 1),
                        ("turn", "a", "b", True, 0), ("turn", "a", "b", 1, False), ("join", "a", "b", "c", True),
                        ("each", "a", "b", "sum", True, 1), ("each", "a", "b", "sum", 1, True),
                        ("gap", "a", "b", "sum", False))

    def test_a_part_more_or_less(self):
        for step in STEPS:
            self.assert_bad(*[step[:length] for length in range(len(step))])
            self.assert_bad(*[step[:place] + step[place + 1:] for place in range(len(step))])
            self.assert_bad(*[step + (more,) for more in (0, 1, "a", "sum", None, True, ())])
            self.assert_bad(*[step[:place] + (more,) + step[place:] for place in (0, 1, 2) for more in (1, "a", "take")])

    def test_another_first_word(self):
        words = ["", "takes", "Take", "TAKE", "tak", "take ", " take", "window", "sum", "a",
                 0, 1, None, True, False, ["take"], ("take",), {}, b"take", Contrary()]
        for step in STEPS:
            self.assert_bad(*[changed(step, 0, word) for word in words])

    def test_the_first_word_of_another_step(self):
        # An only may read as a turn, and a gap as a join whose second feeder is called like its tally.
        alike = [("only", "turn"), ("turn", "only"), ("gap", "join")]
        for step in STEPS:
            for other in STEPS:
                if other[0] != step[0] and (step[0], other[0]) not in alike:
                    self.assert_bad(changed(step, 0, other[0]))
        self.assert_bad(("turn", "a", "b", 10, 11), ("only", "a", "b", 1, 0))
        self.assert_good(("turn", "a", "b", 1, 0), ("only", "a", "b", 10, 11), ("join", "a", "b", "count", 30))

    def test_no_tuples(self):
        for step in STEPS:
            self.assert_bad(list(step), [step], (step,), dict(enumerate(step)), " ".join([str(part) for part in step]),
                            iter(step))
        self.assert_bad((), [], {}, None, True, False, 0, 5, "", "take", "abc", b"abc", 1.5, object(), is_step, Contrary())


class TellingTest(unittest.TestCase):
    def test_name_of(self):
        names = ["buys", "great", "back", "all", "met", "perday", "visits"]
        self.assertEqual([name_of(step) for step in STEPS], names)

    def test_feeders(self):
        fed = [[], ["buys"], ["buys"], ["buys", "back"], ["buys", "back"], ["buys"], ["buys"]]
        self.assertEqual([feeders(step) for step in STEPS], fed)

    def test_feeders_keep_their_order_and_alike_ones(self):
        self.assertEqual(feeders(("both", "a", "z", "b")), ["z", "b"])
        self.assertEqual(feeders(("join", "a", "z", "b", 1)), ["z", "b"])
        self.assertEqual(feeders(("both", "a", "b", "b")), ["b", "b"])
        self.assertEqual(feeders(("join", "a", "b", "b", 1)), ["b", "b"])

    def test_feeders_are_a_new_list_each_time(self):
        for step in STEPS:
            told = feeders(step)
            self.assertIsInstance(told, list)
            again = feeders(step)
            self.assertIsNot(told, again)
            before = list(again)
            told.append("more")
            self.assertEqual(again, before)
            self.assertEqual(feeders(step), before)

    def test_is_teller(self):
        for step in STEPS:
            self.assertIs(is_teller(step), step[0] in ("each", "gap"), step)


if __name__ == "__main__":
    unittest.main()
