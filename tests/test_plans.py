import copy
import unittest

from brooktally import errors
from brooktally.plans import MOST_STEPS, MOST_WIDE, checked, fed, place_of, tellers
from samples import STEPS, Contrary, doubled, name_at, no_numbers

TAKE = ("take", "buys", "buy")
EACH = ("each", "days", "buys", "sum", 10, 5)
GAP = ("gap", "rows", "buys", "count", 30)
ODD_STEPS = [None, True, 0, "take", "buys take buy", [], ["take", "c", "d"], (), ("take", "c"), ("take", "c", "d", "e"),
             ("take", "C", "d"), ("only", "c", "buys", 2, 1), ("each", "c", "buys", "most", 10, 5),
             ("each", "c", "buys", "sum", 21, 1), ("join", "c", "buys", "buys", True), Contrary(), {}]


def takes(number):
    return [("take", name_at(place), "buy") for place in range(number)]


class CheckedTest(unittest.TestCase):
    def assert_good(self, *plans):
        for plan in plans:
            before = copy.copy(plan)
            self.assertIs(checked(plan), True, plan)
            self.assertEqual(plan, before)

    def assert_bad(self, place, *plans):
        for plan in plans:
            before = list(plan) if isinstance(plan, list) else None
            with self.assertRaises(errors.BadStep, msg=repr(plan)) as caught:
                checked(plan)
            self.assertIs(type(caught.exception), errors.BadStep)
            if place is None:
                self.assertIsNone(caught.exception.place, plan)
            else:
                self.assertEqual(caught.exception.place, place, plan)
                self.assertIs(type(caught.exception.place), int)
            if before is not None:
                self.assertEqual(len(plan), len(before))
                self.assertTrue(all(one is other for one, other in zip(plan, before)))

    def test_bounds(self):
        self.assertEqual((MOST_STEPS, MOST_WIDE), (30, 32))
        self.assert_good([], [TAKE], STEPS, takes(29), takes(30))
        self.assert_bad(None, takes(31), takes(32), takes(100))

    def test_no_list(self):
        self.assert_bad(None, *[thing for thing in no_numbers() if not isinstance(thing, list)])
        self.assert_bad(None, (TAKE,), tuple(STEPS), TAKE, "buys take buy", {0: TAKE}, {TAKE}, iter([TAKE]), 1, -1)

    def test_too_many_stand_ahead_of_all_else(self):
        self.assert_bad(None, [None] * 31, [TAKE] * 31, takes(30) + [None])
        self.assert_bad(0, [None] * 30)
        self.assert_bad(1, [TAKE] * 30)

    def test_a_step_that_is_none(self):
        for odd in ODD_STEPS:
            self.assert_bad(0, [odd], [odd, TAKE], [odd] + takes(29))
            self.assert_bad(1, [TAKE, odd, ("take", "later", "buy")])
            self.assert_bad(len(STEPS), STEPS + [odd])
            self.assert_bad(29, takes(29) + [odd])

    def test_a_name_that_stands_ahead(self):
        again = [("take", "{}", "other"), ("only", "{}", "buys", 1, 2), ("turn", "{}", "buys", 1, 2),
                 ("both", "{}", "buys", "buys"), ("join", "{}", "buys", "buys", 3),
                 ("each", "{}", "buys", "sum", 10, 5), ("gap", "{}", "buys", "sum", 10)]
        for step in STEPS:
            for other in again:
                self.assert_bad(len(STEPS), STEPS + [(other[0], step[1]) + other[2:]])
                self.assert_good(STEPS + [(other[0], "fresh") + other[2:]])

    def test_a_kind_may_be_called_like_a_step(self):
        self.assert_good([("take", "a", "a"), ("take", "b", "a"), ("take", "c", "b"), ("each", "take", "a", "sum", 1, 1),
                          ("gap", "sum", "c", "sum", 0), ("only", "each", "b", 0, 0)])

    def fed_by(self, name):
        return [("only", "new", name, 1, 2), ("turn", "new", name, 1, 2), ("both", "new", name, "buys"),
                ("both", "new", "buys", name), ("both", "new", name, name), ("join", "new", name, "buys", 3),
                ("join", "new", "buys", name, 3), ("each", "new", name, "sum", 10, 5), ("gap", "new", name, "sum", 10)]

    def test_feeders_that_are_none(self):
        behind = ("take", "behind", "buy")
        for name in ("nobody", "buy", "new", "behind", "days", "rows"):
            for step in self.fed_by(name):
                self.assert_bad(3, [TAKE, EACH, GAP, step], [TAKE, EACH, GAP, step, behind],
                                [TAKE, EACH, GAP, step, None])
        for step in self.fed_by("buys"):
            self.assert_good([TAKE, EACH, GAP, step], [TAKE, step, behind])
            self.assert_bad(0, [step], [step, TAKE])

    def test_fed_by_each_sort_of_stream(self):
        for stream in STEPS[:5]:
            for step in self.fed_by(stream[1]):
                self.assert_good(STEPS + [step])
        for teller in STEPS[5:]:
            for step in self.fed_by(teller[1]):
                self.assert_bad(7, STEPS + [step])

    def test_widths(self):
        for word in ("both", "join"):
            wide = doubled(word, 5)
            self.assert_good(wide)
            last = wide[-1][1]
            self.assert_bad(6, doubled(word, 6), doubled(word, 7))
            for other in ("both", "join"):
                more = (other, "more", last, "aa")
                swapped = (other, "more", "aa", last)
                tail = (7,) if other == "join" else ()
                self.assert_bad(6, wide + [more + tail], wide + [swapped + tail])

    def test_a_width_of_just_32_by_unlike_ones(self):
        # 16 and 8 and 4 and 2 and 1 and 1 together.
        plan = doubled("both", 4) + [("join", "ba", "ae", "ad", 1), ("both", "bb", "ba", "ac"), ("join", "bc", "bb", "ab", 1),
                                     ("both", "bd", "bc", "aa")]
        self.assert_good(plan + [("both", "be", "bd", "aa")], plan + [("join", "be", "aa", "bd", 5)])
        self.assert_bad(9, plan + [("both", "be", "bd", "ab")], plan + [("join", "be", "ab", "bd", 5)])

    def test_only_and_turn_and_tellers_are_no_wider(self):
        wide = doubled("both", 5)
        last = wide[-1][1]
        more = [("only", "ba", last, 1, 2), ("turn", "bb", "ba", 1, 2), ("each", "bc", "bb", "sum", 10, 5),
                ("gap", "bd", last, "sum", 10)]
        self.assert_good(wide + more)
        self.assert_bad(10, wide + more + [("both", "be", "bb", "aa")])
        self.assert_bad(10, wide + more + [("both", "be", "aa", "ba")])

    def test_the_first_of_several(self):
        twice = ("take", "buys", "other")
        unfed = ("only", "low", "nobody", 1, 2)
        for first in (None, twice, unfed):
            for second in (None, twice, unfed):
                self.assert_bad(1, [TAKE, first, second], [TAKE, first, GAP, second])
        wide = doubled("both", 6)
        self.assert_bad(6, wide + [None], wide + [unfed])
        self.assert_bad(0, [None] + wide)
        # What is fed by a step that is refused itself isn't looked at.
        self.assert_bad(1, [TAKE, unfed, ("only", "lower", "low", 1, 2)])

    def test_only_bad_step_takes_it(self):
        for other in (errors.BadLine, errors.BadKeep, errors.BadEvent, errors.BadSlack, errors.Broken):
            with self.assertRaises(errors.BadStep):
                try:
                    checked(None)
                except other:
                    self.fail(other)
        for above in (errors.FlowError, ValueError):
            with self.assertRaises(above):
                checked([None])


class TellingTest(unittest.TestCase):
    PLAN = STEPS + [("both", "twice", "all", "all"), ("join", "self", "buys", "buys", 1), ("gap", "late", "all", "sum", 1),
                    ("both", "mixed", "great", "twice")]

    def test_the_plan_is_one(self):
        self.assertIs(checked(self.PLAN), True)

    def test_place_of(self):
        for place, step in enumerate(self.PLAN):
            told = place_of(self.PLAN, step[1])
            self.assertEqual(told, place)
            self.assertIs(type(told), int)

    def test_fed(self):
        before = list(self.PLAN)
        told = [fed(self.PLAN, place) for place in range(len(self.PLAN))]
        self.assertEqual(told, [
            [(1, 0), (2, 0), (3, 0), (4, 0), (5, 0), (6, 0), (8, 0), (8, 1)], [(10, 0)], [(3, 1), (4, 1)],
            [(7, 0), (7, 1), (9, 0)], [], [], [], [(10, 1)], [], [], []])
        self.assertEqual(self.PLAN, before)

    def test_a_kind_feeds_nothing(self):
        plan = [("take", "a", "b"), ("take", "b", "a"), ("take", "c", "c")]
        self.assertEqual([fed(plan, place) for place in range(3)], [[], [], []])

    def test_a_tally_feeds_nothing(self):
        plan = [("take", "sum", "buy"), ("take", "count", "buy"), ("each", "a", "count", "sum", 5, 5),
                ("gap", "b", "sum", "count", 5)]
        self.assertEqual([fed(plan, place) for place in range(4)], [[(3, 0)], [(2, 0)], [], []])

    def test_tellers(self):
        self.assertEqual(tellers(self.PLAN), [5, 6, 9])
        self.assertEqual(tellers([]), [])
        self.assertEqual(tellers(STEPS[:5]), [])
        self.assertEqual(tellers([TAKE, GAP, ("take", "more", "buy"), EACH]), [1, 3])

    def test_told_lists_are_the_askers_own(self):
        for place in range(len(self.PLAN)):
            told = fed(self.PLAN, place)
            before = list(told)
            told.append((99, 0))
            self.assertEqual(fed(self.PLAN, place), before)
        told = tellers(self.PLAN)
        told.clear()
        self.assertEqual(tellers(self.PLAN), [5, 6, 9])


if __name__ == "__main__":
    unittest.main()
