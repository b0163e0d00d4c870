"""Points 20 and 29: rules as texts, and texts read as rules."""

import unittest

from trialdeal.errors import DealError, NoRule, NoText
from trialdeal.rules import Blocks, Coins, Pairs, Rule, Split
from trialdeal.ruletext import read_rule, rule_text

HALF = (1, 2)
LINES = [
    (Split(1, 0), "split 0 of 1"), (Split(1, 1), "split 1 of 1"), (Split(4, 2), "split 2 of 4"), (Split(20, 20), "split 20 of 20"),
    (Split(20, 0), "split 0 of 20"), (Split(10, 9), "split 9 of 10"), (Pairs(1, HALF), "pairs 1 by 1/2"),
    (Pairs(3, (2, 3)), "pairs 3 by 2/3"), (Pairs(10, (1, 100)), "pairs 10 by 1/100"), (Pairs(9, (99, 100)), "pairs 9 by 99/100"),
    (Coins(1, HALF, 1), "coins 1 by 1/2 far 1"), (Coins(6, (3, 7), 2), "coins 6 by 3/7 far 2"),
    (Coins(20, (99, 100), 20), "coins 20 by 99/100 far 20"), (Coins(12, (1, 99), 10), "coins 12 by 1/99 far 10"),
]
# Each is a single line that tells no rule.
NO_LINES = [
    "", " ", "split", "pairs", "coins", "blocks", "first", "split ", "split 2", "split 2 of", "split 2 of ", "split of 4", "split  of 4",
    " split 2 of 4", "split 2 of 4 ", "split  2 of 4", "split 2  of 4", "split 2 of  4", "split 2 of 4 5", "split 2 of 4 of", "Split 2 of 4",
    "SPLIT 2 OF 4", "split 2 Of 4", "split 2 by 4", "split 2 from 4", "split 4 2", "split (2) of 4", "split 2/4", "split2 of 4", "split 2of4",
    "split 02 of 4", "split 2 of 04", "split 00 of 4", "split -0 of 4", "split +2 of 4", "split -1 of 4", "split 5 of 4", "split 0 of 0",
    "split 0 of 21", "split 21 of 21", "split 1 of 21", "split 2.0 of 4", "split two of 4", "split 2 of four", "split None of 4",
    "split 2 of None", "split True of 4", "split 1/2 of 4", "split 2 of 1/2", "split 2,of 4", "split 2 of 4.", "split 2 of -4",
    "split 2 of " + "9" * 900, "split " + "9" * 900 + " of 4", "split 2 of 4 far 1", "split 1_0 of 12",
    "pairs 3", "pairs 3 by", "pairs 3 by ", "pairs by 1/2", "pairs 0 by 1/2", "pairs 11 by 1/2", "pairs -1 by 1/2", "pairs 03 by 1/2",
    "pairs 3 of 1/2", "pairs 3  by 1/2", "pairs 3 by  1/2", " pairs 3 by 1/2", "pairs 3 by 1/2 ", "pairs  3 by 1/2", "pairs 3 by 2/4",
    "pairs 3 by 0", "pairs 3 by 1", "pairs 3 by 0/1", "pairs 3 by 1/1", "pairs 3 by 3/2", "pairs 3 by 1/101", "pairs 3 by 50/100",
    "pairs 3 by -1/2", "pairs 3 by 1/-2", "pairs 3 by 01/2", "pairs 3 by 1/02", "pairs 3 by 1 / 2", "pairs 3 by 1/2/3", "pairs 3 by 1/",
    "pairs 3 by /2", "pairs 3 by 1/0", "pairs 3 by (1, 2)", "pairs 3 by half", "pairs 3 by 1/2 far 2", "pairs 1/2 by 3", "pairs 3 1/2",
    "Pairs 3 by 1/2", "pair 3 by 1/2", "pairs 3 by 1/" + "9" * 900, "pairs three by 1/2", "pairs 3 BY 1/2", "pairs 3 by 1/2 by 1/2",
    "coins 6", "coins 6 by 1/2", "coins 6 by 1/2 far", "coins 6 by 1/2 far ", "coins 6 far 2", "coins 6 far 2 by 1/2", "coins 0 by 1/2 far 2",
    "coins 21 by 1/2 far 2", "coins 06 by 1/2 far 2", "coins 6 by 1/2 far 0", "coins 6 by 1/2 far 21", "coins 6 by 1/2 far 02",
    "coins 6 by 1/2 far -1", "coins 6 by 2/4 far 2", "coins 6 by 0 far 2", "coins 6 by 1 far 2", "coins 6 by 1/101 far 2",
    "coins 6 by 1/1 far 2", " coins 6 by 1/2 far 2", "coins 6 by 1/2 far 2 ", "coins  6 by 1/2 far 2", "coins 6  by 1/2 far 2",
    "coins 6 by  1/2 far 2", "coins 6 by 1/2  far 2", "coins 6 by 1/2 far  2", "coins 6 of 1/2 far 2", "coins 6 by 1/2 near 2",
    "coins 6 by 1/2 far 2 2", "coins 6 by 1/2 far two", "coin 6 by 1/2 far 2", "Coins 6 by 1/2 far 2", "coins 6 by 1/2 Far 2",
    "coins -6 by 1/2 far 2", "coins 6 by 1/2 far 1/2", "coins 6 by far 1/2 2", "blocks 2", "first 2 of split 2 of 4", "7", "1/2", "0", "~",
    "split 2 of 4; split 1 of 2", "split 2 of 4 split 1 of 2", "split 2 of 4/pairs 3 by 1/2",
]


class TextCase(unittest.TestCase):
    def same(self, told, wanted):
        self.assertEqual(repr(told), repr(wanted))

    def refused(self, line, text):
        with self.assertRaises(DealError) as caught:
            read_rule(text)
        self.assertIs(type(caught.exception), NoRule, text)
        self.same(caught.exception.line, line)

    def tells_alike(self, rule, other):
        self.assertIsInstance(rule, Rule)
        self.assertIs(type(rule), type(other))
        self.same(rule.told(), other.told())
        self.same((rule.folk(), rule.begin(), rule.blocks()), (other.folk(), other.begin(), other.blocks()))
        self.same(rule.steps(rule.begin(), 0), other.steps(other.begin(), 0))


class Written(TextCase):
    def test_one_line(self):
        for rule, line in LINES:
            self.same(rule_text(rule), line)

    def test_all_splits(self):
        for folk in range(1, 21):
            for ones in range(folk + 1):
                self.same(rule_text(Split(folk, ones)), "split " + str(ones) + " of " + str(folk))

    def test_blocks_line_by_line(self):
        self.same(rule_text(Blocks([Split(4, 2)])), "split 2 of 4")
        self.same(rule_text(Blocks([Split(4, 2), Pairs(2, (1, 3))])), "split 2 of 4\npairs 2 by 1/3")
        self.same(
            rule_text(Blocks([Coins(6, (3, 7), 2), Split(1, 0), Pairs(1, HALF), Split(1, 0), Split(2, 2), Coins(8, HALF, 9)])),
            "coins 6 by 3/7 far 2\nsplit 0 of 1\npairs 1 by 1/2\nsplit 0 of 1\nsplit 2 of 2\ncoins 8 by 1/2 far 9",
        )


class Read(TextCase):
    def test_one_line(self):
        for rule, line in LINES:
            self.tells_alike(read_rule(line), rule)

    def test_all_numbers_back(self):
        for folk in range(1, 21):
            for ones in range(folk + 1):
                self.tells_alike(read_rule(rule_text(Split(folk, ones))), Split(folk, ones))
            for far in range(1, 21):
                rule = Coins(folk, (far, 41), 21 - far)
                self.tells_alike(read_rule(rule_text(rule)), rule)
        for pairs in range(1, 11):
            for bottom in range(2, 101):
                rule = Pairs(pairs, (1, bottom))
                self.tells_alike(read_rule(rule_text(rule)), rule)

    def test_two_to_six_lines(self):
        few = [(rule, line) for rule, line in LINES if rule.folk() <= 3] + [(Coins(3, (2, 5), 7), "coins 3 by 2/5 far 7")]
        for many in range(2, 7):
            for start in range(len(few)):
                rows = [few[(start + k) % len(few)] for k in range(many)]
                wanted = Blocks([rule for rule, line in rows])
                text = "\n".join([line for rule, line in rows])
                self.tells_alike(read_rule(text), wanted)
                self.same(rule_text(read_rule(text)), text)

    def test_one_line_is_no_blocks(self):
        self.tells_alike(read_rule(rule_text(Blocks([Split(4, 2)]))), Split(4, 2))

    def test_the_same_text_again(self):
        text = "split 2 of 4\npairs 2 by 1/3"
        self.tells_alike(read_rule(text), read_rule(text))

    def test_twenty_folk_together(self):
        self.tells_alike(read_rule("pairs 5 by 1/2\nsplit 3 of 10"), Blocks([Pairs(5, HALF), Split(10, 3)]))
        self.tells_alike(
            read_rule("\n".join(["split 1 of 3"] * 5 + ["coins 5 by 1/2 far 1"])), Blocks([Split(3, 1)] * 5 + [Coins(5, HALF, 1)])
        )


class Refused(TextCase):
    def test_what_is_no_text(self):
        for thing in (
            None, True, False, 0, 1, -7, 10 ** 29, [], ["split 2 of 4"], (), ("split", 4, 2), ("split 2 of 4",), {}, {"split": 2},
            Split(4, 2), Blocks([Split(4, 2)]), DealError("split 2 of 4"),
        ):
            with self.assertRaises(DealError) as caught:
                read_rule(thing)
            self.assertIs(type(caught.exception), NoText)
            self.assertIs(caught.exception.found, thing)

    def test_one_line(self):
        for line in NO_LINES:
            self.refused(0, line)

    def test_the_first_line_that_is_amiss(self):
        good = "split 0 of 1"
        for line in NO_LINES:
            self.refused(0, line + "\n" + good)
            self.refused(1, good + "\n" + line)
            self.refused(2, "\n".join([good, good, line, good]))
            self.refused(1, "\n".join([good, line, line]))
            self.refused(5, "\n".join([good] * 5 + [line]))

    def test_line_feeds_ahead_and_behind(self):
        self.refused(0, "\n")
        self.refused(0, "\n\n\n")
        self.refused(0, "\nsplit 2 of 4")
        self.refused(1, "split 2 of 4\n")
        self.refused(1, "split 2 of 4\n\n")
        self.refused(1, "split 2 of 4\n\npairs 1 by 1/2")
        self.refused(2, "split 2 of 4\npairs 1 by 1/2\n")
        self.refused(0, "split\n2 of 4")

    def test_more_than_twenty_folk_till_there(self):
        self.refused(1, "split 2 of 20\nsplit 0 of 1")
        self.refused(1, "split 0 of 1\nsplit 2 of 20")
        self.refused(1, "pairs 5 by 1/2\nsplit 3 of 11")
        self.refused(1, "coins 11 by 1/2 far 1\npairs 5 by 1/2")
        self.refused(2, "split 1 of 10\nsplit 1 of 10\nsplit 1 of 10")
        self.refused(3, "split 1 of 10\nsplit 1 of 9\nsplit 1 of 1\ncoins 1 by 1/2 far 1\nsplit 1 of 1")
        self.refused(5, "\n".join(["split 1 of 4"] * 6))
        self.refused(1, "split 2 of 20\nsplit 0 of 1\nnothing")
        self.refused(1, "split 2 of 20\nnothing\nsplit 0 of 1")
        self.refused(0, "nothing\nsplit 2 of 20\nsplit 0 of 1")

    def test_the_seventh_line(self):
        good = "split 0 of 1"
        self.tells_alike(read_rule("\n".join([good] * 6)), Blocks([Split(1, 0)] * 6))
        for rest in ([good], [""], ["nothing"], ["split 0 of 20"], [good] * 14, ["nothing"] * 300):
            self.refused(6, "\n".join([good] * 6 + rest))
        self.refused(4, "\n".join([good] * 4 + ["nothing"] + [good] * 2))
        self.refused(5, "\n".join(["split 1 of 4"] * 7))

    def test_long_texts(self):
        self.refused(0, "split " * 600)
        self.refused(0, "~" * 4000)
        self.refused(0, "\n" * 4000)
        self.refused(6, ("split 0 of 1\n" * 300)[:3900])


if __name__ == "__main__":
    unittest.main()
