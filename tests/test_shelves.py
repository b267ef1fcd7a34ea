import unittest

from brooktally import errors
from brooktally.shelves import Shelf


def keep(count, more=0):
    lines = ["clock 5 " + str(count) + " 3"] + ["item 2 0 ann 7 " + str(number) for number in range(more)]
    return lines + ["end " + str(len(lines))]


def state(shelf):
    return ([list(lines) for lines in shelf.slots], list(shelf.rows), list(shelf.late))


def shelf_of(one, other):
    shelf = Shelf()
    shelf.write(0, one)
    shelf.write(1, other)
    return shelf


ROW = ("days", "ann", 0, 10, 5)
OTHER = ("days", "ann", 0, 10, 6)


class SlotsTest(unittest.TestCase):
    def test_a_new_one(self):
        shelf = Shelf()
        self.assertEqual(state(shelf), ([[], []], [], []))
        self.assertIsNone(shelf.last())
        self.assertIsNot(shelf.slots[0], shelf.slots[1])

    def test_write(self):
        for slot in (0, 1):
            shelf = Shelf()
            shelf.tell(0, ROW)
            shelf.name_late(4)
            shelf.write(1 - slot, keep(1))
            lines = keep(5, 2)
            self.assertIsNone(shelf.write(slot, lines))
            slots = [keep(1), keep(1)]
            slots[slot] = keep(5, 2)
            self.assertEqual(state(shelf), (slots, [ROW], [4]))
            lines.clear()
            self.assertEqual(state(shelf), (slots, [ROW], [4]))
            shelf.write(slot, keep(9))
            slots[slot] = keep(9)
            self.assertEqual(state(shelf), (slots, [ROW], [4]))

    def test_torn(self):
        for slot in (0, 1):
            for many in (0, 1, 2, 3, 4, 5, 100):
                shelf = shelf_of(keep(1), keep(1))
                shelf.tell(0, ROW)
                shelf.name_late(4)
                lines = keep(5, 2)
                self.assertIsNone(shelf.torn(slot, lines, many))
                slots = [keep(1), keep(1)]
                slots[slot] = keep(5, 2)[:many]
                self.assertEqual(state(shelf), (slots, [ROW], [4]))
                self.assertEqual(lines, keep(5, 2))
                lines.clear()
                self.assertEqual(state(shelf), (slots, [ROW], [4]))
                self.assertEqual(shelf.last(), keep(5, 2) if many >= 4 else keep(1))

    def test_last_of_none(self):
        for one in ([], keep(3)[:1], keep(3)[1:], keep(3, 2)[:2] + keep(3, 2)[3:]):
            for other in ([], keep(4)[:1]):
                self.assertIsNone(shelf_of(one, other).last())
                self.assertIsNone(shelf_of(other, one).last())

    def test_last_of_one(self):
        for lines in ([], keep(9, 1)[:2], keep(9, 1)[1:]):
            self.assertEqual(shelf_of(keep(3), lines).last(), keep(3))
            self.assertEqual(shelf_of(lines, keep(3)).last(), keep(3))
            self.assertEqual(shelf_of(lines, keep(0)).last(), keep(0))
            self.assertEqual(shelf_of(keep(0), lines).last(), keep(0))

    def test_last_of_both(self):
        for low, high in ((0, 1), (2, 3), (9, 10), (99, 100), (5, 1000)):
            self.assertEqual(shelf_of(keep(low), keep(high)).last(), keep(high))
            self.assertEqual(shelf_of(keep(high), keep(low)).last(), keep(high))

    def test_last_goes_by_count_alone(self):
        one = ["clock 9 4 9", "end 1"]
        other = ["clock 1 5 1", "end 1"]
        self.assertEqual(shelf_of(one, other).last(), other)
        self.assertEqual(shelf_of(other, one).last(), other)

    def test_last_of_like_counts(self):
        self.assertEqual(shelf_of(keep(4, 1), keep(4, 2)).last(), keep(4, 1))
        self.assertEqual(shelf_of(keep(4, 2), keep(4, 1)).last(), keep(4, 2))

    def test_slots_that_are_not_whole(self):
        good = keep(5, 2)
        wrong = [good[:place] + good[place + 1:] for place in range(4)]
        wrong += [good[:-1] + [line] for line in ("end 2", "end 4", "end", "end 03", "end 3 ", "", "clock 5 5 3", "item 2 0 a 1 1")]
        wrong += [[line] + good[1:] for line in ("clock 5 5", "clock -1 5 3", "clock 5 -1 3", "clock 5 5 -3", "clock 5 05 3",
                                                 "clock 1000000001 5 3", "Clock 5 5 3", "hand 5", "", "end 3", "clock  5 5 3")]
        wrong += [["end 0"], ["clock 5 5 3"], [""], good + ["end 3"], good + [""]]
        for lines in wrong:
            self.assertIsNone(shelf_of(lines, []).last(), lines)
            self.assertIsNone(shelf_of([], lines).last(), lines)
            self.assertEqual(shelf_of(lines, keep(1)).last(), keep(1))
            self.assertEqual(shelf_of(keep(1), lines).last(), keep(1))

    def test_last_is_a_list_of_its_own(self):
        shelf = shelf_of(keep(3), keep(4))
        told = shelf.last()
        told.clear()
        self.assertEqual(shelf.last(), keep(4))
        told = shelf.last()
        shelf.write(1, keep(5))
        shelf.torn(0, keep(6), 1)
        self.assertEqual(told, keep(4))


class TellTest(unittest.TestCase):
    def assert_broken(self, shelf, call, *handed):
        before = state(shelf)
        with self.assertRaises(errors.Broken) as caught:
            call(*handed)
        self.assertIs(type(caught.exception), errors.Broken)
        self.assertEqual(state(shelf), before)

    def test_rows(self):
        shelf = Shelf()
        self.assert_broken(shelf, shelf.tell, 1, ROW)
        self.assertIsNone(shelf.tell(0, ROW))
        self.assertEqual(state(shelf), ([[], []], [ROW], []))
        self.assertIsNone(shelf.tell(0, ROW))
        self.assertEqual(shelf.rows, [ROW])
        self.assert_broken(shelf, shelf.tell, 0, OTHER)
        self.assert_broken(shelf, shelf.tell, 2, OTHER)
        self.assert_broken(shelf, shelf.tell, -1, ROW)
        shelf.tell(1, OTHER)
        shelf.tell(2, ROW)
        self.assertEqual(shelf.rows, [ROW, OTHER, ROW])
        for number, row in ((0, ROW), (1, OTHER), (2, ROW)):
            shelf.tell(number, row)
        self.assertEqual(shelf.rows, [ROW, OTHER, ROW])
        for number, row in ((0, OTHER), (1, ROW), (2, OTHER), (4, ROW), (5, OTHER), (100, ROW)):
            self.assert_broken(shelf, shelf.tell, number, row)

    def test_alike_rows_by_their_numbers(self):
        shelf = Shelf()
        for number in range(3):
            shelf.tell(number, ROW)
        self.assertEqual(shelf.rows, [ROW] * 3)

    def test_late_places(self):
        shelf = Shelf()
        self.assertIsNone(shelf.name_late(3))
        self.assertEqual(state(shelf), ([[], []], [], [3]))
        self.assertIsNone(shelf.name_late(3))
        self.assertEqual(shelf.late, [3])
        for place in (0, 1, 2):
            self.assert_broken(shelf, shelf.name_late, place)
        shelf.name_late(4)
        shelf.name_late(9)
        for place in (3, 4, 9):
            shelf.name_late(place)
        self.assertEqual(shelf.late, [3, 4, 9])
        for place in (0, 2, 5, 6, 7, 8):
            self.assert_broken(shelf, shelf.name_late, place)
        shelf.name_late(10)
        self.assertEqual(shelf.late, [3, 4, 9, 10])

    def test_place_nought(self):
        shelf = Shelf()
        shelf.name_late(0)
        shelf.name_late(0)
        self.assertEqual(shelf.late, [0])


if __name__ == "__main__":
    unittest.main()
