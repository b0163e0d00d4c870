"""Point 29: the hands of dealings as texts, and back."""

import unittest
from itertools import product

from trialdeal.dealings import hands_in, hands_text
from trialdeal.rules import Split

NO_HANDS = [
    "", " ", "0 1", " 01", "01 ", "01\n", "\n01", "2", "012", "201", "1x", "-1", "+1", "0b1", "1.", "1/2", "O1", "l0", "o", "hands",
    "0" * 21, "1" * 21, "01" * 11, "0" * 4000, "0" * 20 + " ", "0" * 19 + "2", "2" + "0" * 19, "0,1",
    None, True, False, 0, 1, 10, 101, -1, 10 ** 29, [], ["0"], ["0", "1"], [0, 1], (), ("0",), ("1", "0"), (0, 1), (1, 2), {}, {"0": "1"},
    Split(2, 1),
]


class Hands(unittest.TestCase):
    def same(self, told, wanted):
        self.assertEqual(repr(told), repr(wanted))

    def test_all_of_few_folk(self):
        for folk in range(1, 9):
            for hands in product("01", repeat=folk):
                text = "".join(hands)
                dealing = int(text[::-1], 2)
                self.same(hands_text(dealing, folk), text)
                self.same(hands_in(text), (dealing, folk))

    def test_plain_ones(self):
        self.same(hands_text(1, 4), "1000")
        self.same(hands_text(8, 4), "0001")
        self.same(hands_text(6, 3), "011")
        self.same(hands_in("1000"), (1, 4))
        self.same(hands_in("0001"), (8, 4))
        self.same(hands_in("0"), (0, 1))
        self.same(hands_in("1"), (1, 1))
        self.same(hands_in("000"), (0, 3))

    def test_no_folk(self):
        self.same(hands_text(0, 0), "")
        self.same(hands_in(""), None)

    def test_many_folk(self):
        for folk in range(9, 21):
            for dealing in (0, 1, 2, 2 ** folk - 1, 2 ** folk - 2, 2 ** (folk - 1), 2 ** (folk - 1) - 1, 2 ** folk // 3, 0b101100111):
                text = bin(dealing + 2 ** folk)[3:][::-1]
                self.assertEqual(len(text), folk)
                self.same(hands_text(dealing, folk), text)
                self.same(hands_in(text), (dealing, folk))

    def test_twenty_folk(self):
        self.same(hands_text(2 ** 19, 20), "0" * 19 + "1")
        self.same(hands_in("0" * 19 + "1"), (2 ** 19, 20))
        self.same(hands_in("1" * 20), (2 ** 20 - 1, 20))

    def test_what_writes_none(self):
        for thing in NO_HANDS:
            self.assertIs(hands_in(thing), None, repr(thing)[:50])


if __name__ == "__main__":
    unittest.main()
