"""Points 3, 8 and 28: the share of each dealing, and all dealings of a rule with their shares."""

import unittest
from fractions import Fraction
from itertools import product
from math import comb

from trialdeal.dealings import all_dealings, dealing_share
from trialdeal.errors import DealError, NoDealing, TooMany
from trialdeal.rules import Blocks, Coins, First, Pairs, Split

HALF = (1, 2)
NO_NUMBERS = [
    True, False, None, "", "0", "1", "01", [], [0], [1], (), (0,), (1, 2), {}, {0: 1}, Split(2, 1), DealError("0"),
    -1, -2, 10 ** 30 - 1, 1 - 10 ** 30,
]


def pair_of(fraction):
    return (fraction.numerator, fraction.denominator)


def number_of(hands):
    return sum(hand << at for at, hand in enumerate(hands))


def split_share(folk, ones, hands):
    return Fraction(1, comb(folk, ones)) if sum(hands) == ones else Fraction(0)


def pairs_share(coin, hands):
    share = Fraction(1)
    for first, second in zip(hands[::2], hands[1::2]):
        if first == second:
            return Fraction(0)
        share *= Fraction(*coin) if first == 1 else 1 - Fraction(*coin)
    return share


def coins_share(coin, far, hands):
    share, more = Fraction(1), 0
    for hand in hands:
        if more == far:
            share *= 1 - hand
        elif more == -far:
            share *= hand
        else:
            share *= Fraction(*coin) if hand == 1 else 1 - Fraction(*coin)
        more += 2 * hand - 1
    return share


def blocks_share(parts, hands):
    """parts: tuples (folk, share of the hands of these folk)."""
    share = Fraction(1)
    for folk, inner in parts:
        share *= inner(hands[:folk])
        hands = hands[folk:]
    return share


def first_share(folk, inner, hands):
    """The first ones of a rule have the shares of all that the others may have behind them."""
    return sum(inner(hands + rest) for rest in product((0, 1), repeat=folk - len(hands)))


def simple_rules():
    """Tuples (rule, share of hands), by what points 22 to 24 tell of all folk at once."""
    several = []
    for folk in range(1, 7):
        for ones in range(folk + 1):
            several.append((Split(folk, ones), lambda hands, folk=folk, ones=ones: split_share(folk, ones, hands)))
    for pairs in range(1, 4):
        for coin in (HALF, (1, 3), (99, 100)):
            several.append((Pairs(pairs, coin), lambda hands, coin=coin: pairs_share(coin, hands)))
    for folk in range(1, 7):
        for coin in (HALF, (2, 5)):
            for far in (1, 2, 3, 20):
                several.append(
                    (Coins(folk, coin, far), lambda hands, coin=coin, far=far: coins_share(coin, far, hands))
                )
    return several


def composed_rules():
    """Blocks of these, first ones of these and of blocks."""
    split = (Split(3, 1), lambda hands: split_share(3, 1, hands))
    pairs = (Pairs(1, (1, 3)), lambda hands: pairs_share((1, 3), hands))
    coins = (Coins(3, (2, 5), 1), lambda hands: coins_share((2, 5), 1, hands))
    several = []
    for parts in ([split], [pairs], [split, pairs], [pairs, coins], [coins, split, pairs], [pairs, pairs, pairs]):
        rule = Blocks([part[0] for part in parts])
        inner = [(part[0].folk(), part[1]) for part in parts]
        several.append((rule, lambda hands, inner=inner: blocks_share(inner, hands)))
    for rule, share in list(several) + [split, pairs, coins]:
        folk = rule.folk()
        for many in range(folk + 1):
            several.append(
                (First(rule, many), lambda hands, folk=folk, share=share: first_share(folk, share, hands))
            )
    rule, share = several[2]
    several.append((First(First(rule, 4), 3), lambda hands: first_share(5, share, hands)))
    return several


class DealingsCase(unittest.TestCase):
    def same(self, told, wanted):
        self.assertEqual(repr(told), repr(wanted))

    def refused(self, refusal, call, *things):
        with self.assertRaises(DealError) as caught:
            call(*things)
        self.assertIs(type(caught.exception), refusal)
        return caught.exception

    def look_at(self, rule, share_of_hands):
        wanted = {}
        for hands in product((0, 1), repeat=rule.folk()):
            wanted[number_of(hands)] = share_of_hands(hands)
        self.assertEqual(sum(wanted.values()), 1)
        for dealing, share in wanted.items():
            self.same(dealing_share(rule, dealing), pair_of(share))
        rows = [(dealing, pair_of(wanted[dealing])) for dealing in sorted(wanted) if wanted[dealing] > 0]
        self.same(all_dealings(rule), rows)


class Shares(DealingsCase):
    def test_splits_pairs_and_coins(self):
        for rule, share_of_hands in simple_rules():
            self.look_at(rule, share_of_hands)

    def test_blocks_and_first_folk(self):
        for rule, share_of_hands in composed_rules():
            self.look_at(rule, share_of_hands)

    def test_the_lowest_bit_is_the_folk_0(self):
        self.same(dealing_share(Pairs(1, (1, 3)), 1), (1, 3))
        self.same(dealing_share(Pairs(1, (1, 3)), 2), (2, 3))
        self.same(dealing_share(Pairs(1, (1, 3)), 3), (0, 1))
        self.same(dealing_share(Pairs(1, (1, 3)), 0), (0, 1))
        self.same(dealing_share(Coins(2, (1, 4), 1), 1), (1, 4))
        self.same(all_dealings(Coins(2, (1, 4), 1)), [(1, (1, 4)), (2, (3, 4))])

    def test_no_folk(self):
        for rule in (First(Split(3, 1), 0), First(Pairs(1, HALF), 0), First(Blocks([Split(2, 2)]), 0)):
            self.same(dealing_share(rule, 0), (1, 1))
            self.same(all_dealings(rule), [(0, (1, 1))])

    def test_twenty_folk(self):
        half = 2 ** 20 - 2 ** 10
        self.same(dealing_share(Split(20, 10), half), (1, comb(20, 10)))
        self.same(dealing_share(Split(20, 10), half - 1), (0, 1))
        self.same(dealing_share(Split(20, 20), 2 ** 20 - 1), (1, 1))
        self.same(dealing_share(Split(20, 0), 0), (1, 1))
        self.same(dealing_share(Split(20, 0), 2 ** 19), (0, 1))
        self.same(dealing_share(Coins(20, (99, 100), 20), 2 ** 20 - 1), (99 ** 20, 100 ** 20))
        self.same(dealing_share(Coins(20, (99, 100), 20), 0), (1, 100 ** 20))
        self.same(dealing_share(Coins(20, (1, 100), 1), int("10" * 10, 2)), (99 ** 10, 100 ** 10))
        self.same(dealing_share(Pairs(10, (3, 7)), int("01" * 10, 2)), (3 ** 10, 7 ** 10))
        self.same(dealing_share(Pairs(10, (3, 7)), int("10" * 10, 2)), (4 ** 10, 7 ** 10))
        self.same(dealing_share(Pairs(10, (3, 7)), 2 ** 19), (0, 1))

    def test_what_is_no_dealing(self):
        for rule in (
            Split(1, 1), Split(4, 2), Split(20, 10), Pairs(1, HALF), Coins(3, HALF, 1), Blocks([Split(2, 1), Split(3, 1)]),
            First(Split(4, 2), 3), First(Split(4, 2), 0),
        ):
            for thing in NO_NUMBERS + [2 ** rule.folk(), 2 ** rule.folk() + 1, 2 ** 21]:
                self.assertIs(self.refused(NoDealing, dealing_share, rule, thing).found, thing)
            self.assertTrue(dealing_share(rule, 2 ** rule.folk() - 1))

    def test_a_first_one_has_fewer_dealings(self):
        rule = First(Coins(4, HALF, 4), 2)
        self.same(dealing_share(rule, 3), (1, 4))
        self.assertEqual(self.refused(NoDealing, dealing_share, rule, 4).found, 4)


class AllDealings(DealingsCase):
    def rising(self, rule, many):
        rows = all_dealings(rule)
        self.assertIs(type(rows), list)
        self.assertEqual(len(rows), many)
        dealings = [dealing for dealing, share in rows]
        self.assertEqual(dealings, sorted(set(dealings)))
        self.assertEqual(sum(Fraction(*share) for dealing, share in rows), 1)
        for dealing, share in rows[:3] + rows[-3:] + rows[many // 2:many // 2 + 3]:
            self.same(dealing_share(rule, dealing), share)
        for row in rows:
            self.assertIs(type(row), tuple)
            self.assertGreater(row[1][0], 0)
        return rows

    def test_all_of_a_split_alike(self):
        rows = self.rising(Split(12, 5), comb(12, 5))
        self.assertEqual({share for dealing, share in rows}, {(1, comb(12, 5))})
        self.assertEqual({bin(dealing).count("1") for dealing, share in rows}, {5})

    def test_twenty_folk(self):
        self.rising(Split(20, 4), 4845)
        self.rising(Split(20, 17), 1140)
        self.rising(Split(20, 0), 1)
        self.rising(Pairs(10, (1, 100)), 1024)
        self.rising(Coins(20, (1, 3), 1), 1024)
        self.rising(Blocks([Split(8, 0), Coins(12, HALF, 20)]), 4096)
        self.rising(First(Coins(20, (2, 3), 20), 12), 4096)

    def test_just_five_thousand(self):
        self.rising(Blocks([Split(5, 2), Split(5, 3), Split(5, 2), Split(5, 1)]), 5000)

    def test_more_than_five_thousand(self):
        for rule in (
            Split(15, 6), Split(15, 9), Split(20, 5), Split(20, 10), Split(20, 15), Coins(13, HALF, 20), Coins(20, HALF, 20),
            Coins(20, (1, 3), 2), First(Split(20, 10), 13), Blocks([Split(5, 2), Split(5, 2), Split(5, 2), Split(4, 2)]),
            Blocks([Pairs(5, HALF), Split(10, 5)]),
        ):
            self.same(self.refused(TooMany, all_dealings, rule).many, 5001)

    def test_five_thousand_and_five(self):
        self.same(self.refused(TooMany, all_dealings, Split(15, 6)).many, 5001)
        self.rising(First(Split(15, 6), 12), sum(comb(12, ones) for ones in range(3, 7)))

    def test_a_list_that_is_changed(self):
        rule = Blocks([Split(2, 1), Pairs(1, HALF)])
        rows = all_dealings(rule)
        kept = list(rows)
        rows.clear()
        self.same(all_dealings(rule), kept)
        again = all_dealings(rule)
        again[0] = None
        again.append((0, (1, 1)))
        self.same(all_dealings(rule), kept)
        self.same(all_dealings(Blocks([Split(2, 1), Pairs(1, HALF)])), kept)

    def test_what_is_refused_changes_nothing(self):
        rule = Split(20, 10)
        before = (rule.folk(), rule.begin(), rule.told(), rule.blocks(), rule.steps(10, 0))
        self.refused(TooMany, all_dealings, rule)
        self.refused(NoDealing, dealing_share, rule, -1)
        self.assertEqual((rule.folk(), rule.begin(), rule.told(), rule.blocks(), rule.steps(10, 0)), before)


if __name__ == "__main__":
    unittest.main()
