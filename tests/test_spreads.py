"""Points 5, 6 and 43: spreads, and the shares of all values from a value on, and up to it."""

import unittest
from fractions import Fraction
from math import comb

from trialdeal.dealings import all_dealings
from trialdeal.errors import DealError, NoNumber
from trialdeal.measures import value_of
from trialdeal.rules import Blocks, Coins, First, Pairs, Split
from trialdeal.tables import share_from, share_to, spread_of

HALF = (1, 2)


def pair_of(fraction):
    return (fraction.numerator, fraction.denominator)


def wanted_spread(rule, scores):
    values = {}
    for dealing, share in all_dealings(rule):
        value = value_of(scores, dealing)
        values[value] = values.get(value, 0) + Fraction(*share)
    return {value: pair_of(values[value]) for value in sorted(values)}


class SpreadCase(unittest.TestCase):
    def same(self, told, wanted):
        self.assertEqual(repr(told), repr(wanted))

    def are_parts(self, spread):
        """The shares from and to all values, between them and beyond."""
        values = sorted(spread)
        asked = {-10 ** 30 + 1, 10 ** 30 - 1, 0}
        for value in values:
            asked.update((value - 1, value, value + 1))
        for value in sorted(asked):
            from_it = sum((Fraction(*spread[key]) for key in values if key >= value), Fraction(0))
            to_it = sum((Fraction(*spread[key]) for key in values if key <= value), Fraction(0))
            self.same(share_from(spread, value), pair_of(from_it))
            self.same(share_to(spread, value), pair_of(to_it))


class Spreads(SpreadCase):
    def rules(self):
        split, pairs, coins = Split(3, 1), Pairs(2, (1, 3)), Coins(4, (2, 5), 2)
        blocks = Blocks([split, pairs])
        return [
            split, pairs, coins, blocks, Split(1, 1), Split(6, 3), Coins(7, HALF, 20), Coins(6, (1, 100), 1), Blocks([coins, Split(2, 1)]),
            First(split, 2), First(pairs, 3), First(coins, 0), First(blocks, 5), First(First(blocks, 6), 4), Split(20, 2), Split(20, 20), Pairs(10, (1, 7)),
        ]

    def test_all_dealings_gone_through(self):
        for rule in self.rules():
            folk = rule.folk()
            for scores in ([0] * folk, [1] * folk, [-5] * folk, [at * at - 7 * at for at in range(folk)], [3, -3, 0, 1] * 5):
                scores = scores[:folk]
                spread = spread_of(rule, scores)
                self.same(spread, wanted_spread(rule, scores))
                self.assertEqual(list(spread), sorted(spread))
                self.assertEqual(sum(Fraction(*share) for share in spread.values()), 1)

    def test_by_hand(self):
        self.same(spread_of(Split(2, 1), [5, -2]), {-2: (1, 2), 5: (1, 2)})
        self.same(spread_of(Split(2, 1), [5, 5]), {5: (1, 1)})
        self.same(spread_of(Pairs(1, (1, 3)), [-1, 1]), {-1: (1, 3), 1: (2, 3)})
        self.same(spread_of(First(Split(2, 1), 0), []), {0: (1, 1)})

    def test_twenty_folk(self):
        spread = spread_of(Split(20, 10), [1] * 10 + [0] * 10)
        self.same(spread, {ones: pair_of(Fraction(comb(10, ones) ** 2, comb(20, 10))) for ones in range(11)})
        spread = spread_of(Coins(20, (1, 100), 20), [-100000] * 20)
        wanted = {-100000 * ones: pair_of(Fraction(comb(20, ones) * 99 ** (20 - ones), 100 ** 20)) for ones in range(20, -1, -1)}
        self.same(spread, wanted)

    def test_a_spread_that_is_changed(self):
        rule, scores = Split(3, 1), [4, 4, 9]
        spread = spread_of(rule, scores)
        spread[4] = (0, 1)
        spread.pop(9)
        self.same(spread_of(rule, scores), {4: (2, 3), 9: (1, 3)})
        self.same(spread_of(Split(3, 1), [4, 4, 9]), {4: (2, 3), 9: (1, 3)})
        self.same(scores, [4, 4, 9])


class Parts(SpreadCase):
    def test_of_told_spreads(self):
        for rule, scores in (
            (Split(3, 1), [4, 4, 9]), (Split(6, 3), [1, 2, 4, -8, 16, 0]), (Coins(5, (1, 7), 2), [3, -3, 3, 1, 0]), (Pairs(3, HALF), [1, -1, 1, -1, 1, -1]),
            (First(Split(2, 1), 0), []), (Split(20, 10), [1, -1] * 10), (Coins(20, (37, 100), 3), [at % 5 for at in range(20)]),
        ):
            self.are_parts(spread_of(rule, scores))

    def test_of_other_dicts(self):
        for spread in (
            {}, {0: (1, 1)}, {5: (1, 2)}, {-7: (1, 3), 7: (1, 6)}, {3: (1, 4), -3: (1, 5), 0: (1, 6)}, {1: (0, 1), 2: (1, 2)}, {0: (0, 1)},
            {10 ** 29: (1, 3), -10 ** 29: (2, 3)}, {2: (1, 10 ** 400), 1: (1, 10 ** 400 + 1)}, {at: (1, 1100) for at in range(1100, 0, -1)},
            {at: (at, 1000 * 999) for at in range(1, 999) if at % 2 and at % 5 and at % 3 and at % 37},
        ):
            self.are_parts(spread)

    def test_by_hand(self):
        spread = {-2: (1, 8), 0: (1, 2), 5: (1, 8)}
        self.same([share_from(spread, value) for value in (-3, -2, -1, 0, 1, 5, 6)], [(3, 4), (3, 4), (5, 8), (5, 8), (1, 8), (1, 8), (0, 1)])
        self.same([share_to(spread, value) for value in (-3, -2, -1, 0, 1, 5, 6)], [(0, 1), (1, 8), (1, 8), (5, 8), (5, 8), (3, 4), (3, 4)])

    def test_what_is_no_whole_number(self):
        for spread in ({}, {0: (1, 1)}, {1: (1, 2), 2: (1, 2)}):
            for thing in (
                True, False, None, "", "0", "1", [], [0], [1], (), (0,), (1, 2), {}, {0: (1, 1)}, Split(2, 1), DealError("0"), spread,
            ):
                for call in (share_from, share_to):
                    with self.assertRaises(DealError) as caught:
                        call(spread, thing)
                    self.assertIs(type(caught.exception), NoNumber)
                    self.assertIs(caught.exception.found, thing)

    def test_what_is_handed_in_stays(self):
        spread = {2: (1, 3), 1: (1, 3)}
        share_from(spread, 2)
        share_to(spread, 2)
        self.same(spread, {2: (1, 3), 1: (1, 3)})


if __name__ == "__main__":
    unittest.main()
