"""Points 3 and 21 to 26: how many folk, begins, and the steps of all states that rules come to."""

import unittest
from fractions import Fraction
from math import comb

from trialdeal.rules import Blocks, Coins, First, Pairs, Rule, Split

COINS = [(1, 2), (1, 3), (2, 3), (1, 100), (99, 100), (3, 7), (49, 100)]
HALF = (1, 2)
ALL = (1, 1)


def pair_of(fraction):
    return (fraction.numerator, fraction.denominator)


def both_hands(coin, zero, one):
    rest = 1 - Fraction(*coin)
    return [(0, pair_of(rest), zero), (1, coin, one)]


def split_steps(folk):
    """What point 22 tells, reckoned by fractions."""

    def wanted(state, at):
        left = folk - at
        rows = []
        if left > state:
            rows.append((0, pair_of(Fraction(left - state, left)), state))
        if state > 0:
            rows.append((1, pair_of(Fraction(state, left)), state - 1))
        return rows

    return wanted


def pairs_steps(coin):
    def wanted(state, at):
        if at % 2 == 0:
            return both_hands(coin, 0, 1)
        return [({0: 1, 1: 0}[state], ALL, None)]

    return wanted


def coins_steps(coin, far):
    def wanted(state, at):
        if state == far:
            return [(0, ALL, state - 1)]
        if state == -far:
            return [(1, ALL, state + 1)]
        return both_hands(coin, state - 1, state + 1)

    return wanted


class RuleCase(unittest.TestCase):
    def same(self, told, wanted):
        """Alike in all kinds too: a truth is no number, a list no tuple."""
        self.assertEqual(repr(told), repr(wanted))

    def layers(self, rule, wanted=None):
        """The states ahead of each folk and behind all; steps are looked at on the way."""
        layers = [[rule.begin()]]
        for at in range(rule.folk()):
            behind = {}
            for state in layers[-1]:
                rows = rule.steps(state, at)
                if wanted is not None:
                    self.same(rows, wanted(state, at))
                self.are_steps(rows)
                behind.update({row[2]: True for row in rows})
            layers.append(list(behind))
        return layers

    def are_steps(self, rows):
        self.assertIs(type(rows), list)
        hands = [row[0] for row in rows]
        self.assertIn(repr(hands), ("[0]", "[1]", "[0, 1]"))
        for row in rows:
            self.assertIs(type(row), tuple)
            self.assertEqual(len(row), 3)
            self.assertIs(type(row[1]), tuple)
            self.assertGreater(row[1][0], 0)
            self.same(row[1], pair_of(Fraction(*row[1])))
        self.assertEqual(sum(Fraction(*row[1]) for row in rows), 1)

    def dealings(self, rule):
        """Each dealing and its share, found by going all ways."""
        found = {(rule.begin(), ""): Fraction(1)}
        for at in range(rule.folk()):
            behind = {}
            for (state, hands), share in found.items():
                for hand, part, after in rule.steps(state, at):
                    behind[(after, hands + str(hand))] = share * Fraction(*part)
            found = behind
        return {hands: share for (state, hands), share in found.items()}


class Splits(RuleCase):
    def test_all_splits(self):
        for folk in range(1, 21):
            for ones in range(folk + 1):
                rule = Split(folk, ones)
                self.assertIsInstance(rule, Rule)
                self.same(rule.folk(), folk)
                self.same(rule.begin(), ones)
                layers = self.layers(rule, split_steps(folk))
                self.same(layers[-1], [0])

    def test_plain_steps(self):
        rule = Split(4, 2)
        self.same(rule.steps(2, 0), [(0, (1, 2), 2), (1, (1, 2), 1)])
        self.same(rule.steps(1, 1), [(0, (2, 3), 1), (1, (1, 3), 0)])
        self.same(rule.steps(2, 1), [(0, (1, 3), 2), (1, (2, 3), 1)])
        self.same(rule.steps(2, 2), [(1, (1, 1), 1)])
        self.same(rule.steps(0, 2), [(0, (1, 1), 0)])
        self.same(rule.steps(1, 3), [(1, (1, 1), 0)])
        self.same(rule.steps(0, 3), [(0, (1, 1), 0)])

    def test_all_or_none_to_hand_one(self):
        self.same(Split(1, 0).steps(0, 0), [(0, (1, 1), 0)])
        self.same(Split(1, 1).steps(1, 0), [(1, (1, 1), 0)])
        self.same(Split(20, 0).steps(0, 19), [(0, (1, 1), 0)])
        self.same(Split(20, 20).steps(20, 0), [(1, (1, 1), 19)])

    def test_each_dealing_has_the_same_share(self):
        for folk in range(1, 9):
            for ones in range(folk + 1):
                found = self.dealings(Split(folk, ones))
                many = comb(folk, ones)
                self.assertEqual(len(found), many)
                for hands, share in found.items():
                    self.assertEqual((hands.count("1"), share), (ones, Fraction(1, many)))


class PairsOfFolk(RuleCase):
    def test_all_pairs(self):
        for pairs in range(1, 11):
            for coin in COINS:
                rule = Pairs(pairs, coin)
                self.assertIsInstance(rule, Rule)
                self.same(rule.folk(), 2 * pairs)
                self.same(rule.begin(), None)
                layers = self.layers(rule, pairs_steps(coin))
                self.same(layers, [[None], [0, 1]] * pairs + [[None]])

    def test_plain_steps(self):
        rule = Pairs(2, (1, 3))
        self.same(rule.steps(None, 0), [(0, (2, 3), 0), (1, (1, 3), 1)])
        self.same(rule.steps(0, 1), [(1, (1, 1), None)])
        self.same(rule.steps(1, 1), [(0, (1, 1), None)])
        self.same(rule.steps(None, 2), [(0, (2, 3), 0), (1, (1, 3), 1)])
        self.same(rule.steps(0, 3), [(1, (1, 1), None)])
        self.same(rule.steps(1, 3), [(0, (1, 1), None)])

    def test_the_dealings(self):
        quarter, rest = Fraction(1, 4), Fraction(3, 4)
        self.assertEqual(
            self.dealings(Pairs(2, (1, 4))),
            {"0101": rest * rest, "0110": rest * quarter, "1001": quarter * rest, "1010": quarter * quarter},
        )


class CoinsOfFolk(RuleCase):
    def test_all_coins(self):
        for folk in range(1, 21):
            for coin in ((1, 2), (3, 7), (99, 100)):
                for far in range(1, 21):
                    rule = Coins(folk, coin, far)
                    self.assertIsInstance(rule, Rule)
                    self.same(rule.folk(), folk)
                    self.same(rule.begin(), 0)
                    layers = self.layers(rule, coins_steps(coin, far))
                    for at, states in enumerate(layers):
                        most = min(far - (far - at) % 2, at)
                        self.assertEqual(sorted(states), list(range(-most, most + 1, 2)))

    def test_plain_steps(self):
        rule = Coins(9, (2, 5), 2)
        self.same(rule.steps(0, 0), [(0, (3, 5), -1), (1, (2, 5), 1)])
        self.same(rule.steps(1, 1), [(0, (3, 5), 0), (1, (2, 5), 2)])
        self.same(rule.steps(-1, 1), [(0, (3, 5), -2), (1, (2, 5), 0)])
        self.same(rule.steps(2, 2), [(0, (1, 1), 1)])
        self.same(rule.steps(-2, 2), [(1, (1, 1), -1)])
        self.same(rule.steps(0, 8), [(0, (3, 5), -1), (1, (2, 5), 1)])

    def test_the_dealings(self):
        third, rest = Fraction(1, 3), Fraction(2, 3)
        self.assertEqual(
            self.dealings(Coins(3, (1, 3), 1)),
            {"010": rest * rest, "011": rest * third, "100": third * rest, "101": third * third},
        )
        self.assertEqual(len(self.dealings(Coins(8, (1, 3), 20))), 256)


class BlocksOfRules(RuleCase):
    def wanted_of(self, parts):
        """The steps of blocks, by tuples (folk, begin, wanted steps) for each rule."""

        def wanted(state, at):
            number = 0
            while at >= parts[number][0]:
                at -= parts[number][0]
                number += 1
            self.assertEqual(state[0], number)
            last = at == parts[number][0] - 1
            ahead = (number + 1, parts[number + 1][1] if number + 1 < len(parts) else None)
            return [
                (hand, share, ahead if last else (number, behind))
                for hand, share, behind in parts[number][2](state[1], at)
            ]

        return wanted

    def look_at(self, several):
        """several: tuples (rule, wanted steps)."""
        rules = [rule for rule, wanted in several]
        blocks = Blocks(rules)
        self.assertIsInstance(blocks, Rule)
        self.same(blocks.folk(), sum(rule.folk() for rule in rules))
        self.same(blocks.begin(), (0, rules[0].begin()))
        parts = [(rule.folk(), rule.begin(), wanted) for rule, wanted in several]
        layers = self.layers(blocks, self.wanted_of(parts))
        self.same(layers[-1], [(len(rules), None)])
        at = 0
        for number, rule in enumerate(rules):
            self.same(layers[at], [(number, rule.begin())])
            at += rule.folk()

    def test_one_to_six_rules(self):
        split = (Split(3, 1), split_steps(3))
        pairs = (Pairs(1, (1, 3)), pairs_steps((1, 3)))
        coins = (Coins(4, (2, 5), 2), coins_steps((2, 5), 2))
        one = (Split(1, 1), split_steps(1))
        for several in (
            [split], [pairs], [coins], [one],
            [split, pairs], [pairs, split], [coins, split], [split, coins], [coins, pairs], [pairs, coins],
            [split, split], [pairs, pairs], [coins, coins], [one, one],
            [split, pairs, coins], [coins, one, pairs], [pairs, pairs, split], [split, coins, split],
            [one, split, pairs, coins], [coins, pairs, split, one, coins],
            [one] * 6, [split, one, pairs, one, coins, pairs], [split] * 6,
        ):
            self.look_at(several)

    def test_twenty_folk_together(self):
        self.look_at([(Split(20, 7), split_steps(20))])
        self.look_at([(Pairs(10, HALF), pairs_steps(HALF))])
        self.look_at([(Coins(20, HALF, 3), coins_steps(HALF, 3))])
        self.look_at([(Split(19, 0), split_steps(19)), (Split(1, 1), split_steps(1))])
        self.look_at([(Pairs(2, HALF), pairs_steps(HALF))] * 5)
        self.look_at([(Coins(4, HALF, 1), coins_steps(HALF, 1)), (Split(4, 4), split_steps(4))] * 2)

    def test_plain_steps(self):
        rule = Blocks([Split(2, 1), Pairs(1, (1, 3)), Coins(1, (1, 4), 1)])
        self.same(rule.begin(), (0, 1))
        self.same(rule.steps((0, 1), 0), [(0, (1, 2), (0, 1)), (1, (1, 2), (0, 0))])
        self.same(rule.steps((0, 1), 1), [(1, (1, 1), (1, None))])
        self.same(rule.steps((0, 0), 1), [(0, (1, 1), (1, None))])
        self.same(rule.steps((1, None), 2), [(0, (2, 3), (1, 0)), (1, (1, 3), (1, 1))])
        self.same(rule.steps((1, 0), 3), [(1, (1, 1), (2, 0))])
        self.same(rule.steps((1, 1), 3), [(0, (1, 1), (2, 0))])
        self.same(rule.steps((2, 0), 4), [(0, (3, 4), (3, None)), (1, (1, 4), (3, None))])

    def test_each_is_dealt_whatever_was_dealt_ahead(self):
        rules = [Coins(3, (1, 3), 1), Split(3, 2), Coins(3, (1, 3), 1)]
        wanted = {"": Fraction(1)}
        for rule in rules:
            wanted = {
                ahead + hands: share * part
                for ahead, share in wanted.items()
                for hands, part in self.dealings(rule).items()
            }
        self.assertEqual(self.dealings(Blocks(rules)), wanted)


class FirstFolk(RuleCase):
    def rules(self):
        split, pairs, coins = Split(5, 2), Pairs(3, (1, 3)), Coins(6, (3, 7), 2)
        return [
            split, pairs, coins, Split(20, 10), Pairs(10, HALF), Coins(20, HALF, 20), Split(1, 1),
            Blocks([split]), Blocks([coins, pairs, split]), Blocks([pairs, pairs, pairs]), Blocks([Split(1, 0)] * 6),
            First(split, 4), First(pairs, 3), First(coins, 0), First(Blocks([split, pairs]), 8),
        ]

    def test_none_some_and_all_folk(self):
        for rule in self.rules():
            layers = self.layers(rule)
            for many in range(rule.folk() + 1):
                first = First(rule, many)
                self.assertIsInstance(first, Rule)
                self.same(first.folk(), many)
                self.same(first.begin(), rule.begin())
                self.same(self.layers(first, rule.steps), layers[:many + 1])

    def test_first_ones_of_first_ones(self):
        for rule in self.rules():
            for many in range(rule.folk() + 1):
                for fewer in range(many + 1):
                    first = First(First(rule, many), fewer)
                    self.same(first.folk(), fewer)
                    self.same(first.begin(), rule.begin())
                    self.layers(first, rule.steps)

    def test_a_chain_of_them(self):
        rule = Coins(6, (3, 7), 2)
        first = rule
        for many in (6, 6, 5, 5, 4, 3, 3):
            first = First(first, many)
        self.same(first.folk(), 3)
        self.same(self.layers(first, rule.steps), self.layers(rule)[:4])

    def test_a_split_still_counts_those_left_out(self):
        self.same(First(Split(4, 2), 2).steps(1, 1), [(0, (2, 3), 1), (1, (1, 3), 0)])
        self.same(First(Split(4, 2), 1).steps(2, 0), [(0, (1, 2), 2), (1, (1, 2), 1)])

    def test_cut_amid_a_pair(self):
        rule = First(Pairs(2, (1, 3)), 3)
        self.same(self.layers(rule), [[None], [0, 1], [None], [0, 1]])

    def test_cut_at_the_end_of_a_block(self):
        rule = First(Blocks([Split(2, 1), Pairs(2, HALF)]), 2)
        self.same(self.layers(rule)[-1], [(1, None)])


class Classes(unittest.TestCase):
    def test_none_of_them_stands_under_another_one(self):
        classes = [Split, Pairs, Coins, Blocks, First]
        for one in classes:
            self.assertTrue(issubclass(one, Rule))
            for other in classes:
                self.assertEqual(issubclass(one, other), one is other)

    def test_all_rules_have_the_same_methods(self):
        for name in ("folk", "begin", "steps", "told", "blocks"):
            self.assertTrue(callable(getattr(Rule, name)))


if __name__ == "__main__":
    unittest.main()
