"""Points 7 and 22 to 26: what rules refuse, with which refusal, and in which order."""

import unittest

from trialdeal.errors import DealError, NoNumber, NoShare, NoTrials, TooMany
from trialdeal.rules import Blocks, Coins, First, Pairs, Split

HALF = (1, 2)
NO_NUMBERS = [
    True, False, None, "", "1", "5", [], [1], [5], (), (1,), (1, 2), {}, {1: 1}, DealError("1"), Split(2, 1), [Split(2, 1)],
]
HUGE = [10 ** 30 - 1, 1 - 10 ** 30]
GOOD_COINS = [(1, 2), (1, 3), (2, 3), (1, 100), (99, 100), (49, 100), (98, 99), (1, 99)]
NO_COINS = [
    (0, 1), (1, 1), (0, 2), (2, 2), (2, 4), (50, 100), (3, 2), (-1, 2), (1, -2), (-1, -2), (1, 0), (0, 0), (1, 101), (100, 101),
    (50, 101), (1, 102), (1, 200), (1, 10 ** 30 - 1), [1, 2], [0, 1], (1,), (1, 2, 3), (), (True, 2), (1, True), (True, True),
    (False, True), ("1", "2"), (None, 2), (1, None), ((1, 2), 3), ([1], 2), "1/2", "", None, True, False, 0, 1, 2, {}, {1: 2},
    Split(2, 1), [(1, 2)], ((1, 2),), 10 ** 30 - 1,
]


class RefusedCase(unittest.TestCase):
    def refused(self, refusal, found, made, *things):
        """Of just this class, with the very thing that was handed in."""
        with self.assertRaises(DealError) as caught:
            made(*things)
        self.assertIs(type(caught.exception), refusal, (made, things))
        self.assertIs(caught.exception.found, found)

    def too_many(self, many, rules):
        with self.assertRaises(DealError) as caught:
            Blocks(rules)
        self.assertIs(type(caught.exception), TooMany)
        self.assertEqual(repr(caught.exception.many), repr(many))


class Splits(RefusedCase):
    def test_the_folk(self):
        for folk in [0, -1, 21, 22] + HUGE + NO_NUMBERS:
            for ones in (0, 1):
                self.refused(NoNumber, folk, Split, folk, ones)

    def test_the_ones(self):
        for folk in (1, 2, 7, 19, 20):
            for ones in [-1, folk + 1, 21] + HUGE + NO_NUMBERS:
                self.refused(NoNumber, ones, Split, folk, ones)

    def test_the_folk_ahead_of_the_ones(self):
        self.refused(NoNumber, 21, Split, 21, 22)
        self.refused(NoNumber, 0, Split, 0, -1)
        self.refused(NoNumber, 0, Split, 0, 1)
        self.refused(NoNumber, True, Split, True, None)
        self.refused(NoNumber, "folk", Split, "folk", "ones")
        self.refused(NoNumber, None, Split, None, True)

    def test_the_bounds_are_counted(self):
        for folk, ones in ((1, 0), (1, 1), (20, 0), (20, 20), (20, 19), (2, 2)):
            self.assertEqual(Split(folk, ones).folk(), folk)


class PairsOfFolk(RefusedCase):
    def test_the_pairs(self):
        for pairs in [0, -1, 11, 20] + HUGE + NO_NUMBERS:
            self.refused(NoNumber, pairs, Pairs, pairs, HALF)

    def test_the_coin(self):
        for pairs in (1, 5, 10):
            for coin in NO_COINS:
                self.refused(NoShare, coin, Pairs, pairs, coin)

    def test_the_pairs_ahead_of_the_coin(self):
        for coin in NO_COINS:
            self.refused(NoNumber, 11, Pairs, 11, coin)
            self.refused(NoNumber, None, Pairs, None, coin)

    def test_the_bounds_are_counted(self):
        for coin in GOOD_COINS:
            self.assertEqual(Pairs(1, coin).folk(), 2)
            self.assertEqual(Pairs(10, coin).folk(), 20)


class CoinsOfFolk(RefusedCase):
    def test_the_folk(self):
        for folk in [0, -1, 21] + HUGE + NO_NUMBERS:
            self.refused(NoNumber, folk, Coins, folk, HALF, 3)

    def test_the_coin(self):
        for folk in (1, 20):
            for coin in NO_COINS:
                self.refused(NoShare, coin, Coins, folk, coin, 3)

    def test_the_far(self):
        for folk in (1, 20):
            for far in [0, -1, 21] + HUGE + NO_NUMBERS:
                self.refused(NoNumber, far, Coins, folk, HALF, far)

    def test_their_order(self):
        self.refused(NoNumber, 0, Coins, 0, (2, 4), 21)
        self.refused(NoNumber, 21, Coins, 21, HALF, 0)
        self.refused(NoNumber, "folk", Coins, "folk", HALF, "far")
        self.refused(NoNumber, None, Coins, None, None, 3)
        for coin in NO_COINS:
            self.refused(NoNumber, 21, Coins, 21, coin, 3)
            self.refused(NoShare, coin, Coins, 5, coin, 0)
            self.refused(NoShare, coin, Coins, 5, coin, None)

    def test_the_bounds_are_counted(self):
        for coin in GOOD_COINS:
            for folk in (1, 20):
                for far in (1, 20):
                    self.assertEqual(Coins(folk, coin, far).folk(), folk)


class BlocksOfRules(RefusedCase):
    def test_what_is_no_list(self):
        split = Split(2, 1)
        for thing in (
            None, True, False, 0, 1, 6, "", "split 1 of 2", split, Pairs(1, HALF), Coins(1, HALF, 1), Blocks([split]),
            First(split, 1), (), (split,), (split, split), {}, {0: split}, DealError("rules"),
        ):
            self.refused(NoTrials, thing, Blocks, thing)

    def test_none_six_and_seven(self):
        split = Split(1, 0)
        for many in range(1, 7):
            self.assertEqual(Blocks([split] * many).folk(), many)
        for many in (0, 7, 8, 20, 21, 1100):
            thing = [split] * many
            self.refused(NoTrials, thing, Blocks, thing)

    def test_things_that_are_no_such_rule(self):
        split = Split(2, 1)
        for other in (
            Blocks([split]), First(split, 1), First(split, 2), First(split, 0), First(Blocks([split]), 1), None, True, 0, 2,
            "split 1 of 2", "", ("split", 2, 1), split.told(), [split], (split,), [], {}, {"split": split}, HALF, DealError("no"),
        ):
            for thing in ([other], [other, split], [split, other], [split, other, split], [split] * 5 + [other], [other] * 6):
                self.refused(NoTrials, thing, Blocks, thing)

    def test_twenty_and_more_folk(self):
        self.assertEqual(Blocks([Split(10, 5), Pairs(5, HALF)]).folk(), 20)
        self.assertEqual(Blocks([Split(19, 5), Coins(1, HALF, 1)]).folk(), 20)
        self.assertEqual(Blocks([Pairs(10, HALF)]).folk(), 20)
        self.too_many(21, [Split(20, 5), Coins(1, HALF, 1)])
        self.too_many(21, [Split(1, 1), Pairs(10, HALF)])
        self.too_many(21, [Coins(11, HALF, 2), Pairs(5, HALF)])
        self.too_many(22, [Pairs(1, HALF), Coins(20, HALF, 3)])
        self.too_many(24, [Split(4, 1)] * 6)
        self.too_many(40, [Pairs(10, HALF)] * 2)
        self.too_many(120, [Split(20, 0)] * 6)

    def test_no_trials_ahead_of_too_many(self):
        split = Split(20, 10)
        for thing in ([split] * 7, [split, split, None], [split, split, Blocks([split])], (split, split), [None, split, split]):
            self.refused(NoTrials, thing, Blocks, thing)

    def test_what_is_refused_is_not_changed(self):
        split = Split(20, 10)
        thing = [split, [split], None]
        self.refused(NoTrials, thing, Blocks, thing)
        self.assertEqual(thing, [split, [split], None])
        thing = [split, split]
        self.too_many(40, thing)
        self.assertEqual(thing, [split, split])


class FirstFolk(RefusedCase):
    def test_the_number(self):
        split = Split(5, 2)
        for rule in (
            Split(1, 1), split, Split(20, 9), Pairs(1, HALF), Pairs(4, HALF), Coins(6, HALF, 2), Blocks([split, Pairs(2, HALF)]),
            First(split, 3), First(split, 0), First(First(Blocks([split, split]), 7), 6),
        ):
            for many in [-1, rule.folk() + 1, rule.folk() + 2, 21] + HUGE + NO_NUMBERS:
                self.refused(NoNumber, many, First, rule, many)
            for many in (0, rule.folk()):
                self.assertEqual(First(rule, many).folk(), many)

    def test_no_more_than_the_first_ones_have(self):
        self.refused(NoNumber, 4, First, First(Split(5, 2), 3), 4)
        self.refused(NoNumber, 1, First, First(Split(5, 2), 0), 1)

    def test_what_is_refused_changes_nothing(self):
        rule = Split(5, 2)
        self.refused(NoNumber, 6, First, rule, 6)
        self.assertEqual((rule.folk(), rule.told(), rule.blocks()), (5, ("split", 5, 2), [[0, 1, 2, 3, 4]]))


if __name__ == "__main__":
    unittest.main()
