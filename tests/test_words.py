import itertools
import re
import unittest

from brooktally import words
from brooktally.words import is_among, is_amount, is_name, is_time, is_whole, number_of, number_text
from samples import no_names, no_numbers

BILLION = 1000000000
NO_LETTERS = ["A", "Z", "0", "9", "_", "-", " ", "\t", "\n", "`", "{", "~", ".", "\u00e9", "\u0131", "\U0001d41a"]
SIGNS = [chr(code) for code in range(32, 127)] + ["\n", "\t", "\r", "\v", "\u0661", "\u00b2", "\u2212", "\u00a0"]


class ConstantsTest(unittest.TestCase):
    def test_constants(self):
        self.assertEqual(words.LETTERS, "abcdefghijklmnopqrstuvwxyz")
        bounds = (words.MOST_LETTERS, words.MOST_SIGNS, words.MOST_TIME, words.MOST_AMOUNT)
        self.assertEqual(bounds, (12, 60, BILLION, BILLION))


class WholeTest(unittest.TestCase):
    def test_whole_numbers(self):
        for number in (0, 1, -1, 7, BILLION, -BILLION, 10 ** 100, -10 ** 5000):
            self.assertIs(is_whole(number), True)

    def test_no_whole_numbers(self):
        for thing in no_numbers():
            self.assertIs(is_whole(thing), False, repr(thing))


class AmongTest(unittest.TestCase):
    def test_bounds(self):
        for least, most in ((0, 5), (-9, 9), (3, 3), (-7, -4), (-10 ** 40, 10 ** 40)):
            self.assertIs(is_among(least, least, most), True)
            self.assertIs(is_among(most, least, most), True)
            self.assertIs(is_among((least + most) // 2, least, most), True)
            self.assertIs(is_among(least - 1, least, most), False)
            self.assertIs(is_among(most + 1, least, most), False)

    def test_nothing_lies_between_crossed_bounds(self):
        for number in range(-1, 6):
            self.assertIs(is_among(number, 3, 2), False)

    def test_of_anything(self):
        for thing in no_numbers():
            self.assertIs(is_among(thing, -5, 5), False, repr(thing))


class TimeAndAmountTest(unittest.TestCase):
    def test_times(self):
        for time in (0, 1, 500, BILLION - 1, BILLION):
            self.assertIs(is_time(time), True)
        for time in (-1, -BILLION, BILLION + 1, 10 ** 30):
            self.assertIs(is_time(time), False)

    def test_amounts(self):
        for amount in (-BILLION, 1 - BILLION, -1, 0, 1, BILLION - 1, BILLION):
            self.assertIs(is_amount(amount), True)
        for amount in (-BILLION - 1, BILLION + 1, 10 ** 30, -10 ** 30):
            self.assertIs(is_amount(amount), False)

    def test_of_anything(self):
        for thing in no_numbers():
            self.assertIs(is_time(thing), False, repr(thing))
            self.assertIs(is_amount(thing), False, repr(thing))


class NameTest(unittest.TestCase):
    def test_lengths(self):
        for many, good in ((0, False), (1, True), (2, True), (11, True), (12, True), (13, False), (60, False)):
            self.assertIs(is_name("q" * many), good, many)

    def test_every_letter(self):
        for letter in words.LETTERS:
            self.assertIs(is_name(letter), True)
            self.assertIs(is_name("b" + letter + "y"), True)
        self.assertIs(is_name("abcdefghijkl"), True)
        self.assertIs(is_name("mnopqrstuvwx"), True)

    def test_a_sign_that_is_no_letter(self):
        for sign in NO_LETTERS:
            for text in (sign, sign + "abcd", "ab" + sign + "cd", "abcd" + sign,
                         sign + "b" * 11, "b" * 5 + sign + "b" * 6, "b" * 11 + sign):
                self.assertIs(is_name(text), False, repr(text))

    def test_of_anything(self):
        for thing in no_names():
            self.assertIs(is_name(thing), False, repr(thing))


class NumberTextTest(unittest.TestCase):
    def test_written(self):
        cases = ((0, "0"), (7, "7"), (10, "10"), (-1, "-1"), (-120, "-120"), (BILLION, "1000000000"),
                 (-BILLION, "-1000000000"), (1234567890123456789, "1234567890123456789"))
        for number, text in cases:
            self.assertEqual(number_text(number), text)

    def test_great_numbers(self):
        for many in (59, 60, 61, 119, 120, 121, 5000):
            self.assertEqual(number_text(10 ** many), "1" + "0" * many)
            self.assertEqual(number_text(-10 ** many), "-1" + "0" * many)
            self.assertEqual(number_text(10 ** many - 1), "9" * many)
            self.assertEqual(number_text(10 ** many + 205), "1" + "205".rjust(many, "0"))

    def test_like_python_writes_them(self):
        for number in list(range(-1100, 1101)) + [3 ** power for power in range(300)]:
            self.assertEqual(number_text(number), str(number))
            self.assertEqual(number_text(-number), str(-number))


class NumberOfTest(unittest.TestCase):
    def test_read(self):
        cases = (("0", 0), ("5", 5), ("-5", -5), ("10", 10), ("-10", -10), ("100", 100), ("1234567890", 1234567890))
        for text, number in cases:
            self.assertEqual(number_of(text), number)
            self.assertIs(is_whole(number_of(text)), True)

    def test_what_is_written_is_read_back(self):
        great = [sign * 10 ** power + more for sign in (1, -1) for power in range(59) for more in (-1, 0, 1)]
        for number in list(range(-1100, 1101)) + great:
            self.assertEqual(number_of(number_text(number)), number)

    def test_sixty_signs_and_one_more(self):
        self.assertEqual(number_of("9" * 60), 10 ** 60 - 1)
        self.assertEqual(number_of("1" + "0" * 59), 10 ** 59)
        self.assertEqual(number_of("-" + "9" * 59), 1 - 10 ** 59)
        for text in ("9" * 61, "1" + "0" * 60, "-" + "9" * 60, "-1" + "0" * 59, "0" * 60, "0" * 61, "7" * 5000):
            self.assertIsNone(number_of(text), text)

    def test_texts_that_write_no_number(self):
        for text in ("", "-", "-0", "--1", "1-", "1-1", "00", "01", "007", "-01", "-00", "0-", "+", "+0", "+1",
                     "-+1", " ", " 1", "1 ", "- 1", "1 2", "\t", "\t1", "1\t", "\n", "1\n", "\n1", "-1\n", "0\n",
                     "1_0", "0x1", "1e3", "1.0", "1.", ".5", "1,000", "one", "a", "None", "True"):
            self.assertIsNone(number_of(text), repr(text))

    def test_another_sign_at_any_place(self):
        for sign in SIGNS:
            if sign not in "0123456789":
                if sign != "-":
                    self.assertIsNone(number_of(sign + "12"), repr(sign))
                for text in (sign, "1" + sign + "2", "12" + sign, "-" + sign + "12", "-1" + sign + "2",
                             "-12" + sign, "0" + sign, "-" + sign):
                    self.assertIsNone(number_of(text), repr(text))

    def test_all_short_texts_of_some_signs(self):
        for length in range(5):
            for signs in itertools.product("-+019 a_\n\t", repeat=length):
                text = "".join(signs)
                if re.fullmatch("0|-?[1-9][0-9]*", text):
                    self.assertEqual(number_text(number_of(text)), text)
                else:
                    self.assertIsNone(number_of(text), repr(text))


if __name__ == "__main__":
    unittest.main()
