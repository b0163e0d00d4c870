"""Points 2 and 12: what a whole number is, and texts that plainly write one."""

import unittest

from trialdeal.errors import DealError
from trialdeal.rules import Split
from trialdeal.words import is_whole, whole_in

MOST = 10 ** 30 - 1
NO_NUMBERS = [
    True, False, None, "", "0", "1", "5", "-5", [], [5], [0, 1], (), (5,), (0, 9), {}, {5: 5}, Split(5, 2), DealError("5"),
]
NO_TEXTS = [
    0, 1, 5, -5, MOST, True, False, None, [], ["5"], (), ("5",), {}, {"5": "5"}, Split(5, 2), DealError("5"),
]


class IsWhole(unittest.TestCase):
    def test_at_beside_and_between_the_bounds(self):
        for low, high in ((0, 0), (0, 1), (3, 7), (-7, -3), (-2, 2), (MOST - 3, MOST), (-MOST, 3 - MOST)):
            for number in (low - 1, high + 1):
                self.assertIs(is_whole(number, low, high), False, (number, low, high))
            for number in (low, high, (low + high) // 2):
                self.assertIs(is_whole(number, low, high), True, (number, low, high))

    def test_all_small_numbers(self):
        for low in range(-4, 5):
            for high in range(-4, 5):
                for number in range(-6, 7):
                    self.assertIs(is_whole(number, low, high), low <= number <= high, (number, low, high))

    def test_numbers_of_thirty_figures(self):
        self.assertIs(is_whole(MOST, 0, MOST), True)
        self.assertIs(is_whole(-MOST, -MOST, 0), True)
        self.assertIs(is_whole(0, -MOST, MOST), True)
        self.assertIs(is_whole(MOST - 1, MOST, MOST), False)
        self.assertIs(is_whole(1 - MOST, -MOST, -MOST), False)
        self.assertIs(is_whole(10 ** 29 + 1, 10 ** 29, 10 ** 29), False)
        self.assertIs(is_whole(MOST, MOST, -MOST), False)

    def test_the_first_bound_above_the_second(self):
        for number in (0, 1, 2, 3, 4, 5):
            self.assertIs(is_whole(number, 4, 1), False)

    def test_truths_are_no_numbers(self):
        for low, high in ((0, 1), (-9, 9), (0, 0), (1, 1)):
            self.assertIs(is_whole(True, low, high), False)
            self.assertIs(is_whole(False, low, high), False)

    def test_other_things_are_no_numbers(self):
        for thing in NO_NUMBERS:
            self.assertIs(is_whole(thing, -9, 9), False, thing)
            self.assertIs(is_whole(thing, -MOST, MOST), False, thing)
            self.assertIs(is_whole(thing, 9, -9), False, thing)


class WholeIn(unittest.TestCase):
    def plainly(self, text, low, high, number):
        told = whole_in(text, low, high)
        self.assertIs(type(told), int, text[:40])
        self.assertEqual(told, number)

    def test_all_small_numbers(self):
        for number in range(-1100, 1101):
            self.plainly(str(number), -1100, 1100, number)

    def test_each_number_within_the_bounds_alone(self):
        for low in range(-12, 13):
            for high in range(-12, 13):
                for number in range(-14, 15):
                    if low <= number <= high:
                        self.plainly(str(number), low, high, number)
                    else:
                        self.assertIsNone(whole_in(str(number), low, high))

    def test_nought_is_a_number(self):
        self.plainly("0", 0, 0, 0)
        self.plainly("0", -3, 3, 0)
        self.assertIsNone(whole_in("0", 1, 9))
        self.assertIsNone(whole_in("0", -9, -1))

    def test_numbers_of_thirty_figures(self):
        self.plainly("9" * 30, 0, MOST, MOST)
        self.plainly("-" + "9" * 30, -MOST, 0, -MOST)
        self.plainly("1" + "0" * 29, 10 ** 29, 10 ** 29, 10 ** 29)
        self.plainly("123456789012345678901234567890", -MOST, MOST, 123456789012345678901234567890)
        self.plainly("-987654321098765432109876543210", -MOST, MOST, -987654321098765432109876543210)
        self.assertIsNone(whole_in("9" * 30, -MOST, MOST - 1))
        self.assertIsNone(whole_in("-" + "9" * 30, 1 - MOST, MOST))

    def test_texts_that_are_not_plain(self):
        for text in (
            "", "-", "+", "--", "00", "01", "007", "-0", "-00", "-01", "+0", "+1", "+5", "--5", "-+5", "+-5", "5-", "5+",
            " ", " 5", "5 ", " 5 ", "- 5", "5 6", "1 0", "\n", "5\n", "\n5", "-5\n", "-\n5", "5\n6", "1_0", "1_000", "_1",
            "1_", "0_1", "1,000", "1.0", "5.", ".5", "0.0", "1e1", "0x1", "0b1", "0o7", "x", "five", "a5", "5a", "1/1",
            "0/1", "5/1", "None", "True", "False", "'5'", "(5)", "~", "/", ":", "5:", "5/",
        ):
            self.assertIsNone(whole_in(text, -10000, 10000), repr(text))

    def test_every_sign_by_itself_and_beside_figures(self):
        for sign in [chr(code) for code in range(32, 127) if chr(code) != "%"] + ["\n"]:
            for text in (sign, sign + "5", "5" + sign, "5" + sign + "5", "-" + sign, "-5" + sign):
                figures = text[1:] if text.startswith("-") else text
                if all(figure in "0123456789" for figure in figures) and figures != "" and figures[0] != "0":
                    self.plainly(text, -10000, 10000, int(text))
                elif text == "0":
                    self.plainly(text, -10000, 10000, 0)
                else:
                    self.assertIsNone(whole_in(text, -10000, 10000), repr(text))

    def test_beyond_the_bounds(self):
        self.assertIsNone(whole_in("21", 1, 20))
        self.assertIsNone(whole_in("-1", 0, 20))
        self.assertIsNone(whole_in("5", 6, 4))
        self.assertIsNone(whole_in("5", 9, 1))

    def test_texts_of_four_thousand_signs(self):
        for text in (
            "1" * 4000, "9" * 4000, "0" * 4000, "-" * 4000, " " * 4000, "\n" * 4000, "a" * 4000, "1" + "0" * 3999,
            "-" + "1" * 3999, "-" + "0" * 3999, "5" + " " * 3999, " " * 3999 + "5", "0" * 3999 + "5", "+" + "5" * 3999,
        ):
            self.assertIsNone(whole_in(text, -MOST, MOST), text[:9])

    def test_what_is_no_text(self):
        for thing in NO_TEXTS:
            self.assertIsNone(whole_in(thing, -9, 9), thing)
            self.assertIsNone(whole_in(thing, -MOST, MOST), thing)

    def test_what_is_handed_in_is_not_changed(self):
        thing = ["5", {"a": [5]}]
        whole_in(thing, 0, 9)
        is_whole(thing, 0, 9)
        self.assertEqual(thing, ["5", {"a": [5]}])


if __name__ == "__main__":
    unittest.main()
