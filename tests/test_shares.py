"""Points 2, 13, 14, 15: shares, reckoning with them, and their texts."""

import unittest
from fractions import Fraction
from math import gcd

from trialdeal.errors import NoShare
from trialdeal.rules import Split
from trialdeal.shares import (
    is_share,
    less_share,
    minus_share,
    plus_share,
    share_in,
    share_of,
    share_text,
    sum_shares,
    times_share,
)

# A thousand figures, and hardly anything in common among them.
LONG = 10 ** 1000 - 1
NEAR = 10 ** 999 + 7
SMALL = [(top, bottom) for bottom in range(1, 13) for top in range(bottom + 1) if gcd(top, bottom) == 1]
NO_NUMBERS = [True, False, None, "", "1", "1/2", [], [1], (), (1,), (1, 2), {}, {1: 2}, Split(2, 1)]


class ShareCase(unittest.TestCase):
    def same(self, told, wanted):
        """Alike in all kinds too: a truth is no number, a list no tuple."""
        self.assertEqual(repr(told), repr(wanted))

    def is_fraction(self, told, wanted):
        self.same(told, (wanted.numerator, wanted.denominator))

    def refused(self, deed, *things):
        with self.assertRaises(NoShare) as caught:
            deed(*things)
        self.assertIs(type(caught.exception), NoShare)
        return caught.exception.found

    def refused_of_two(self, deed, one, other):
        found = self.refused(deed, one, other)
        self.assertIs(type(found), tuple)
        self.assertEqual(len(found), 2)
        self.assertIs(found[0], one)
        self.assertIs(found[1], other)


class ShareOf(ShareCase):
    def test_all_small_ones_in_lowest_terms(self):
        for bottom in range(1, 41):
            for top in range(bottom + 1):
                self.is_fraction(share_of(top, bottom), Fraction(top, bottom))

    def test_plain_ones(self):
        self.same(share_of(3, 8), (3, 8))
        self.same(share_of(6, 8), (3, 4))
        self.same(share_of(2, 4), (1, 2))
        self.same(share_of(12, 18), (2, 3))

    def test_a_top_of_nought(self):
        for bottom in (1, 2, 7, 100, LONG):
            self.same(share_of(0, bottom), (0, 1))

    def test_a_top_like_the_bottom(self):
        for bottom in (1, 2, 7, 100, LONG):
            self.same(share_of(bottom, bottom), (1, 1))

    def test_numbers_of_a_thousand_figures(self):
        for top, bottom in ((1, LONG), (NEAR, LONG), (LONG - 1, LONG), (LONG // 3, LONG), (10 ** 998, 10 ** 999)):
            self.is_fraction(share_of(top, bottom), Fraction(top, bottom))
        common = 3 ** 1000
        self.same(share_of(5 ** 500 * common, 7 ** 500 * common), (5 ** 500, 7 ** 500))

    def test_numbers_out_of_bounds(self):
        for top, bottom in (
            (0, 0), (1, 0), (-1, 0), (0, -1), (-1, -1), (-1, -2), (1, -2), (-2, -1), (2, 1), (9, 8), (-1, 8), (-8, 8),
            (LONG, 1), (LONG, LONG - 1), (-1, LONG), (1, -LONG), (-LONG, -LONG), (LONG, 0),
        ):
            self.refused_of_two(share_of, top, bottom)

    def test_what_is_no_number(self):
        for thing in NO_NUMBERS:
            for number in (0, 1, 2):
                self.refused_of_two(share_of, thing, number)
                self.refused_of_two(share_of, number, thing)
            self.refused_of_two(share_of, thing, thing)
            self.refused_of_two(share_of, thing, [5])

    def test_what_is_refused_is_not_changed(self):
        top, bottom = [1, [2]], {"a": [3]}
        self.refused_of_two(share_of, top, bottom)
        self.assertEqual((top, bottom), ([1, [2]], {"a": [3]}))


class IsShare(ShareCase):
    def test_all_small_ones(self):
        for bottom in range(-3, 21):
            for top in range(-3, 24):
                right = bottom >= 1 and 0 <= top <= bottom and gcd(top, bottom) == 1
                self.assertIs(is_share((top, bottom)), right, (top, bottom))

    def test_the_ends(self):
        self.assertIs(is_share((0, 1)), True)
        self.assertIs(is_share((1, 1)), True)
        for thing in ((0, 2), (2, 2), (0, 0), (2, 1), (-1, 1), (1, 0), (0, -1), (-1, -1), (-1, -2)):
            self.assertIs(is_share(thing), False, thing)

    def test_numbers_of_a_thousand_figures(self):
        self.assertIs(is_share((1, LONG)), True)
        self.assertIs(is_share((LONG - 1, LONG)), True)
        self.assertIs(is_share((10 ** 999, LONG)), True)
        self.assertIs(is_share((3, LONG)), False)
        self.assertIs(is_share((LONG, LONG)), False)
        self.assertIs(is_share((0, LONG)), False)
        self.assertIs(is_share((LONG, LONG - 1)), False)

    def test_truths_are_no_numbers_in_it(self):
        for thing in ((True, 1), (1, True), (True, True), (False, 1), (0, True), (True, 2), (False, True), (1, False)):
            self.assertIs(is_share(thing), False, thing)

    def test_other_things_are_none(self):
        for thing in (
            [1, 2], [0, 1], [1, 1], (), (1,), (1, 2, 3), (0, 1, 1), ((1, 2),), ((1, 2), (1, 2)), (1, 2, None), "1/2", "0",
            "1", "12", "", 0, 1, None, True, False, {}, {1: 2}, {0: 0, 1: 1}, {1: 0, 2: 0}, [], [(1, 2)], ("1", "2"),
            ("1", 2), (1, "2"), (None, 1), (1, None), (None, None), ([1], 2), (1, [2]), ((1,), 2), (1, {}), Split(2, 1),
            (Split(2, 1), 1), NoShare((1, 2)), (0, 1, 2), [1], (0,),
        ):
            self.assertIs(is_share(thing), False, thing)


class Reckoning(ShareCase):
    def test_all_small_pairs(self):
        for one in SMALL:
            for other in SMALL:
                first, second = Fraction(*one), Fraction(*other)
                self.is_fraction(times_share(one, other), first * second)
                self.assertIs(less_share(one, other), first < second, (one, other))
                if first + second <= 1:
                    self.is_fraction(plus_share(one, other), first + second)
                else:
                    self.refused_of_two(plus_share, one, other)
                if first >= second:
                    self.is_fraction(minus_share(one, other), first - second)
                else:
                    self.refused_of_two(minus_share, one, other)

    def test_plain_ones(self):
        self.same(plus_share((1, 4), (1, 4)), (1, 2))
        self.same(plus_share((1, 3), (1, 6)), (1, 2))
        self.same(plus_share((3, 8), (5, 8)), (1, 1))
        self.same(minus_share((1, 2), (1, 6)), (1, 3))
        self.same(minus_share((3, 8), (3, 8)), (0, 1))
        self.same(times_share((2, 3), (3, 4)), (1, 2))
        self.assertIs(less_share((1, 3), (1, 2)), True)
        self.assertIs(less_share((1, 2), (1, 2)), False)
        self.assertIs(less_share((1, 2), (1, 3)), False)

    def test_the_ends(self):
        for share in SMALL + [(1, LONG), (LONG - 1, LONG)]:
            self.same(plus_share((0, 1), share), share)
            self.same(plus_share(share, (0, 1)), share)
            self.same(minus_share(share, (0, 1)), share)
            self.same(minus_share(share, share), (0, 1))
            self.same(times_share(share, (1, 1)), share)
            self.same(times_share((1, 1), share), share)
            self.same(times_share(share, (0, 1)), (0, 1))
            self.same(times_share((0, 1), share), (0, 1))
            self.same(plus_share(share, minus_share((1, 1), share)), (1, 1))

    def test_just_above_and_just_below(self):
        self.refused_of_two(plus_share, (1, 2), (500000, 999999))
        self.refused_of_two(plus_share, (1, 1), (1, LONG))
        self.refused_of_two(plus_share, (1, 1), (1, 1))
        self.refused_of_two(minus_share, (0, 1), (1, LONG))
        self.refused_of_two(minus_share, (1, LONG), (1, LONG - 1))
        self.same(plus_share((LONG - 1, LONG), (1, LONG)), (1, 1))

    def test_numbers_of_a_thousand_figures(self):
        several = [(1, LONG), (10 ** 999, LONG), (1, NEAR), (NEAR - 1, NEAR), (7, 10 ** 999), (1, 2), (1, 3)]
        self.assertTrue(all(gcd(*share) == 1 for share in several))
        for one in several:
            for other in several:
                first, second = Fraction(*one), Fraction(*other)
                self.is_fraction(times_share(one, other), first * second)
                self.assertIs(less_share(one, other), first < second)
                if first + second <= 1:
                    self.is_fraction(plus_share(one, other), first + second)
                else:
                    self.refused_of_two(plus_share, one, other)
                if first >= second:
                    self.is_fraction(minus_share(one, other), first - second)
                else:
                    self.refused_of_two(minus_share, one, other)


class SumShares(ShareCase):
    def test_none_and_one(self):
        self.same(sum_shares([]), (0, 1))
        for share in SMALL:
            self.same(sum_shares([share]), share)

    def test_plain_ones(self):
        self.same(sum_shares([(1, 2), (1, 3), (1, 6)]), (1, 1))
        self.same(sum_shares([(1, 4), (1, 4)]), (1, 2))
        self.same(sum_shares([(0, 1), (0, 1), (0, 1)]), (0, 1))
        self.same(sum_shares([(1, 1), (0, 1)]), (1, 1))
        self.same(sum_shares([(1, 6), (1, 10), (1, 15)]), (1, 3))

    def test_all_small_threes(self):
        few = SMALL[:20]
        for one in few:
            for other in few:
                for third in few:
                    several = [one, other, third]
                    total = sum((Fraction(*share) for share in several), Fraction(0))
                    if total <= 1:
                        self.is_fraction(sum_shares(several), total)
                    else:
                        self.assertIs(self.refused(sum_shares, several), several)

    def test_lists_of_eleven_hundred(self):
        self.same(sum_shares([(1, 1100)] * 1100), (1, 1))
        self.same(sum_shares([(0, 1)] * 1100), (0, 1))
        self.same(sum_shares([(1, 2200)] * 1100), (1, 2))
        rows = [(1, at * (at + 1)) for at in range(1, 1101)]
        self.same(sum_shares(rows), (1100, 1101))
        self.same(sum_shares([(0, 1)] * 1099 + [(1, 1)]), (1, 1))
        self.same(sum_shares([(1, LONG)] * 1100), share_of(1100, LONG))

    def test_above_all_at_the_very_end(self):
        for several in (
            [(1, 1100)] * 1099 + [(1, 1099)], [(1, 1)] * 2, [(0, 1)] * 1098 + [(1, 1), (1, LONG)], [(1, 2), (1, 2), (1, 9)],
            [(1, 9), (1, 1)], [(1, 1)] * 1100,
        ):
            self.assertIs(self.refused(sum_shares, several), several)

    def test_numbers_of_a_thousand_figures(self):
        several = [(1, LONG), (1, NEAR), (10 ** 998, LONG), (1, 10 ** 999), (1, 3)]
        self.assertTrue(all(gcd(*share) == 1 for share in several))
        self.is_fraction(sum_shares(several), sum((Fraction(*share) for share in several), Fraction(0)))

    def test_the_list_is_not_changed(self):
        several = [(1, 2), (1, 3), (0, 1)]
        sum_shares(several)
        self.assertEqual(several, [(1, 2), (1, 3), (0, 1)])
        several = [(1, 2), (2, 3), (1, 5)]
        self.assertIs(self.refused(sum_shares, several), several)
        self.assertEqual(several, [(1, 2), (2, 3), (1, 5)])


class Texts(ShareCase):
    def test_plain_ones(self):
        for text, share in (
            ("0", (0, 1)), ("1", (1, 1)), ("3/8", (3, 8)), ("1/2", (1, 2)), ("99/100", (99, 100)), ("10/101", (10, 101)),
        ):
            self.same(share_text(share), text)
            self.same(share_in(text), share)

    def test_all_small_ones(self):
        for share in SMALL:
            self.same(share_in(share_text(share)), share)

    def test_all_small_texts(self):
        for bottom in range(26):
            for top in range(26):
                text = f"{top}/{bottom}"
                if 0 < top < bottom and gcd(top, bottom) == 1:
                    self.same(share_in(text), (top, bottom))
                else:
                    self.assertIsNone(share_in(text), text)

    def test_a_thousand_figures(self):
        for share in ((1, LONG), (10 ** 999, LONG), (LONG - 1, LONG), (NEAR - 1, NEAR)):
            text = f"{share[0]}/{share[1]}"
            self.same(share_text(share), text)
            self.same(share_in(text), share)
        self.assertIsNone(share_in(f"3/{LONG}"))
        self.assertIsNone(share_in(f"{LONG}/{LONG}"))
        self.assertIsNone(share_in(f"{LONG}/{LONG - 1}"))

    def test_texts_that_write_none(self):
        for text in (
            "2/4", "0/1", "5/3", "1/1", "2/2", "0/2", "0/0", "1/0", "3/1", "2", "3", "10", "00", "01", "-0", "-1", "+1", "+0",
            "03/8", "3/08", "03/08", "0/8", "00/1", "3/8/1", "1/2/3", "3//8", "//", "/", "", "3/", "/8", "3/8/", "/3/8", "38",
            " ", " 0", "0 ", "1 ", " 1", " 3/8", "3/8 ", "3 /8", "3/ 8", "3 / 8", "3/8\n", "\n3/8", "3\n/8", "3/\n8", "0\n",
            "1\n", "-3/8", "3/-8", "-3/-8", "+3/8", "3/+8", "--3/8", "3_0/71", "1/1_1", "3|8", "3\\8", "3:8", "3-8", "3.8",
            "0.5", "1.0", ".5", "1e0", "x/8", "3/x", "three/8", "0x1/2", "(3, 8)", "(3/8)", "3/8a", "a3/8", "None", "True",
            "1/2 1/3", "1/2\n1/3", "0/1\n", "1/-1", "-1/1",
        ):
            self.assertIsNone(share_in(text), repr(text))

    def test_signs_put_in_or_left_out(self):
        signs = [chr(code) for code in range(32, 127) if chr(code) != "%"] + ["\n"]
        for text in ("0", "1", "3/8", "12/35"):
            for place in range(len(text) + 1):
                self.reads_right(text[:place] + text[place + 1:])
                for sign in signs:
                    self.reads_right(text[:place] + sign + text[place:])
                    self.reads_right(text[:place] + sign + text[place + 1:])

    def reads_right(self, text):
        """Told just where the share, written anew, is this very text."""
        wanted = None
        for share in [(0, 1), (1, 1)] + self.by_figures(text):
            if text == {(0, 1): "0", (1, 1): "1"}.get(share, f"{share[0]}/{share[1]}"):
                wanted = share
        self.same(share_in(text), wanted)

    def by_figures(self, text):
        parts = text.split("/")
        if len(parts) != 2 or not all(part.isdigit() for part in parts):
            return []
        top, bottom = int(parts[0]), int(parts[1])
        return [(top, bottom)] if 0 < top < bottom and gcd(top, bottom) == 1 else []

    def test_texts_of_four_thousand_signs(self):
        for text in ("0" * 4000, "1" * 4000, "/" * 4000, "1/" * 2000, " " * 4000, "a" * 4000, "1/2" + " " * 3997, "\n" * 4000):
            self.assertIsNone(share_in(text), text[:9])

    def test_what_is_no_text(self):
        for thing in (
            0, 1, 2, True, False, None, (0, 1), (1, 1), (3, 8), [3, 8], [], ["3/8"], ("3/8",), ("3", "8"), ["3", "/", "8"],
            {}, {"3/8": 1}, Split(2, 1), NoShare("3/8"),
        ):
            self.assertIsNone(share_in(thing), thing)


if __name__ == "__main__":
    unittest.main()
