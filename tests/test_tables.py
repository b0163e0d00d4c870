"""Points 6, 8, 41 and 42: the table of a rule and scores, and which things are this table."""

import unittest
from copy import deepcopy
from fractions import Fraction
from itertools import product
from math import comb

from trialdeal.errors import DealError, NoFolk, TooMany
from trialdeal.rules import Blocks, Coins, First, Pairs, Split
from trialdeal.tables import shows_table, spread_of, table_of

HALF = (1, 2)
# With these scores the greatest layer of Split(15, 6) has just 5,000 keys, then 5,001, the last one fewer.
JUST = [1, 2, 4, 8, 16, 37619, 64, 128, 256, 35002, 1024, 2048, 4096, 8192, 16384]
OVER = [6683, 2, 4, 8, 16, 27622, 64, 128, 256, 512, 1024, 32001, 4096, 8192, 16384]


def pair_of(fraction):
    return (fraction.numerator, fraction.denominator)


def small_rules():
    split, pairs, coins = Split(3, 1), Pairs(1, (1, 3)), Coins(3, (2, 5), 1)
    rules = [Split(folk, ones) for folk in range(1, 6) for ones in range(folk + 1)] + [Split(7, 3)]
    rules += [Pairs(1, HALF), Pairs(2, (1, 3)), Pairs(3, (99, 100))]
    rules += [Coins(folk, coin, far) for folk in (1, 4, 5) for coin in (HALF, (3, 7)) for far in (1, 2, 20)]
    blocks = [Blocks([split]), Blocks([split, pairs]), Blocks([pairs, coins]), Blocks([pairs, pairs, pairs]), Blocks([Split(1, 0)] * 6)]
    rules += blocks
    for rule in blocks[:3] + [Split(4, 2), Pairs(2, (1, 3)), Coins(4, HALF, 2)]:
        rules += [First(rule, many) for many in range(rule.folk() + 1)]
    return rules + [First(First(Blocks([coins, pairs]), 4), 3)]


def scores_for(folk):
    rows = [
        [0] * folk, [1] * folk, [-3] * folk, [2 ** at for at in range(folk)], [-(2 ** at) for at in range(folk)],
        [at - 2 for at in range(folk)], [(-1) ** at * 7 for at in range(folk)], [100000, -100000] * folk,
    ]
    return [row[:folk] for row in rows]


def beginning(rule, hands, scores):
    """The state, sum and share of what is dealt to the first ones, or None where some has no such step."""
    state, total, share = rule.begin(), 0, Fraction(1)
    for at, hand in enumerate(hands):
        ways = [way for way in rule.steps(state, at) if way[0] == hand]
        if not ways:
            return None
        share *= Fraction(*ways[0][1])
        state = ways[0][2]
        total += hand * scores[at]
    return state, total, share


def wanted_layer(rule, scores, many):
    layer = {}
    for hands in product((0, 1), repeat=many):
        found = beginning(rule, hands, scores)
        if found is not None:
            layer[found[:2]] = layer.get(found[:2], 0) + found[2]
    return {key: pair_of(share) for key, share in layer.items()}


def in_order(layer):
    return sorted([(repr(key), repr(share)) for key, share in layer.items()])


class TableCase(unittest.TestCase):
    def same(self, told, wanted):
        self.assertEqual(repr(told), repr(wanted))

    def refused(self, refusal, call, *things):
        with self.assertRaises(DealError) as caught:
            call(*things)
        self.assertIs(type(caught.exception), refusal, repr(things)[:80])
        return caught.exception

    def are_layers(self, table, folk):
        self.assertIs(type(table), list)
        self.assertEqual(len(table), folk + 1)
        for layer in table:
            self.assertIs(type(layer), dict)
            self.assertEqual(sum(Fraction(*share) for share in layer.values()), 1)
            self.assertTrue(all(share[0] > 0 for share in layer.values()))


class Tables(TableCase):
    def test_all_beginnings_of_small_rules(self):
        for rule in small_rules():
            for scores in scores_for(rule.folk()):
                table = table_of(rule, scores)
                self.are_layers(table, rule.folk())
                for many, layer in enumerate(table):
                    self.assertEqual(in_order(layer), in_order(wanted_layer(rule, scores, many)))

    def test_by_hand(self):
        self.assertEqual(
            [in_order(layer) for layer in table_of(Split(2, 1), [5, -2])],
            [
                in_order({(1, 0): (1, 1)}),
                in_order({(1, 0): (1, 2), (0, 5): (1, 2)}),
                in_order({(0, 5): (1, 2), (0, -2): (1, 2)}),
            ],
        )
        self.assertEqual(
            [in_order(layer) for layer in table_of(Pairs(1, (1, 3)), [4, 4])],
            [in_order({(None, 0): (1, 1)}), in_order({(0, 0): (2, 3), (1, 4): (1, 3)}), in_order({(None, 4): (1, 1)})],
        )
        self.assertEqual(
            [in_order(layer) for layer in table_of(Blocks([Split(1, 1), Coins(1, (1, 4), 2)]), [3, 0])],
            [in_order({((0, 1), 0): (1, 1)}), in_order({((1, 0), 3): (1, 1)}), in_order({((2, None), 3): (1, 1)})],
        )

    def test_no_folk(self):
        for rule in (Split(3, 2), Pairs(1, HALF), Coins(2, HALF, 1), Blocks([Pairs(1, HALF), Split(3, 1)])):
            self.same(table_of(First(rule, 0), []), [{(rule.begin(), 0): (1, 1)}])

    def test_twenty_folk(self):
        table = table_of(Split(20, 10), [1] * 20)
        self.are_layers(table, 20)
        for many, layer in enumerate(table):
            wanted = {
                (10 - ones, ones): pair_of(Fraction(comb(many, ones) * comb(20 - many, 10 - ones), comb(20, 10)))
                for ones in range(max(0, many - 10), min(many, 10) + 1)
            }
            self.assertEqual(in_order(layer), in_order(wanted))
        table = table_of(Coins(20, (1, 3), 20), [-1] * 20)
        self.are_layers(table, 20)
        wanted = {(2 * ones - 20, -ones): pair_of(Fraction(comb(20, ones) * 2 ** (20 - ones), 3 ** 20)) for ones in range(21)}
        self.assertEqual(in_order(table[20]), in_order(wanted))
        table = table_of(Pairs(10, (99, 100)), [1, 0] * 10)
        self.are_layers(table, 20)
        wanted = {(None, ones): pair_of(Fraction(comb(10, ones) * 99 ** ones, 100 ** 10)) for ones in range(11)}
        self.assertEqual(in_order(table[20]), in_order(wanted))
        self.are_layers(table_of(Blocks([Split(8, 4), Pairs(3, HALF), Coins(6, HALF, 2)]), list(range(-10, 10))), 20)
        self.are_layers(table_of(First(Split(20, 10), 19), [99 * (-1) ** at for at in range(19)]), 19)

    def test_what_are_no_scores(self):
        for rule in (Split(3, 1), Coins(3, HALF, 1), First(Pairs(2, HALF), 3), Blocks([Split(1, 0), Split(2, 1)])):
            for thing in (
                None, True, False, 0, 3, "", "1 2 3", (), (1, 2, 3), {}, {0: 1, 1: 2, 2: 3}, [], [1], [1, 2], [1, 2, 3, 4], [0] * 20, [0] * 1100,
                [True, 2, 3], [1, 2, False], [1, 2, None], ["1", 2, 3], [1, 2, "3"], [1, 2, 100001], [-100001, 2, 3], [1, 10 ** 30 - 1, 3],
                [1, 1 - 10 ** 30, 3], [1, 2, [3]], [(1, 2), 2, 3], [1, {}, 3], [Split(3, 1), 2, 3], rule, DealError("1"), [[1, 2, 3]],
            ):
                for call in (table_of, spread_of):
                    self.assertIs(self.refused(NoFolk, call, rule, thing).found, thing)
                self.assertIs(self.refused(NoFolk, shows_table, rule, thing, None).found, thing)
            self.are_layers(table_of(rule, [100000, -100000, 100000]), 3)
        self.assertEqual(self.refused(NoFolk, table_of, First(Split(3, 1), 0), [0]).found, [0])

    def test_what_is_too_great(self):
        doubles = [2 ** at for at in range(17)]
        for rule, scores in (
            (Split(15, 6), OVER), (Split(15, 6), doubles[:15]), (Coins(13, HALF, 20), doubles[:13]),
            (Blocks([Split(14, 6), Pairs(1, HALF)]), doubles[:14] + [0, 0]), (First(Coins(20, HALF, 20), 13), doubles[:13]),
            (Split(17, 9), doubles),
        ):
            for call in (table_of, spread_of):
                self.same(self.refused(TooMany, call, rule, scores).many, 5001)
            self.same(self.refused(TooMany, shows_table, rule, scores, None).many, 5001)

    def test_no_folk_ahead_of_too_many(self):
        scores = [2 ** at for at in range(16)]
        self.assertIs(self.refused(NoFolk, table_of, Split(15, 6), scores).found, scores)

    def test_what_is_not_too_great(self):
        table = table_of(Split(15, 6), JUST)
        self.are_layers(table, 15)
        self.assertEqual(max(len(layer) for layer in table), 5000)
        table = table_of(Coins(12, HALF, 20), [2 ** at for at in range(12)])
        self.assertEqual(len(table[12]), 4096)
        table = table_of(Blocks([Split(14, 6), Pairs(1, HALF)]), [2 ** at for at in range(12)] + [0, 0, 0, 0])
        self.are_layers(table, 16)

    def test_handed_in_and_told(self):
        rule, scores = Blocks([Split(2, 1), Pairs(1, HALF)]), [3, -1, 2, 2]
        table = table_of(rule, scores)
        kept = deepcopy(table)
        self.same(scores, [3, -1, 2, 2])
        table[1].clear()
        table[2][(7, 7)] = (1, 1)
        table.pop()
        self.assertEqual(table_of(rule, scores), kept)
        self.assertEqual(table_of(Blocks([Split(2, 1), Pairs(1, HALF)]), [3, -1, 2, 2]), kept)


class Shown(TableCase):
    def changed(self, rule, scores):
        """Tables that are like the one that is told but for one thing."""
        for number, layer in enumerate(table_of(rule, scores)):
            for key, share in layer.items():
                for other in (
                    (1, 7), (0, 1), (2 * share[0], 2 * share[1]), list(share), (share[0], share[1], 1), share[:1], None, True, 1, "1", {}, share + share,
                ):
                    yield self.with_share(rule, scores, number, key, other)
                if share == (1, 1):
                    for other in ((True, 1), (1, True), (True, True)):
                        yield self.with_share(rule, scores, number, key, other)
                yield self.without_key(rule, scores, number, key)
                for other in ((key[0], key[1] + 1), (key[0], key[1], 0), key[:1], (7, key[1]), key[1], None, (key[1], key[0], 9), str(key)):
                    table = self.without_key(rule, scores, number, key)
                    table[number][other] = share
                    yield table
                    table = table_of(rule, scores)
                    table[number][other] = (0, 1)
                    yield table

    def with_share(self, rule, scores, number, key, share):
        table = table_of(rule, scores)
        table[number][key] = share
        return table

    def without_key(self, rule, scores, number, key):
        table = table_of(rule, scores)
        del table[number][key]
        return table

    def test_the_told_table(self):
        for rule in small_rules():
            for scores in scores_for(rule.folk())[:6:2]:
                table = table_of(rule, scores)
                self.assertIs(shows_table(rule, scores, table), True)
                turned = [dict(reversed(list(layer.items()))) for layer in table]
                self.assertIs(shows_table(rule, scores, turned), True)
                wanted = [wanted_layer(rule, scores, many) for many in range(rule.folk() + 1)]
                self.assertIs(shows_table(rule, scores, wanted), True)

    def test_a_share_or_a_key_changed(self):
        for rule in (Split(3, 1), Pairs(1, (1, 3)), Coins(2, (2, 5), 1), Blocks([Split(2, 1), Pairs(1, HALF)]), First(Split(3, 2), 0)):
            for scores in ([0] * rule.folk(), [1, 0, -2, 5][:rule.folk()]):
                for table in self.changed(rule, scores):
                    self.assertIs(shows_table(rule, scores, table), False, table)
                self.assertIs(shows_table(rule, scores, table_of(rule, scores)), True)

    def test_a_truth_for_a_number(self):
        self.assertIs(shows_table(Split(1, 1), [1], [{(1, 0): (1, 1)}, {(0, 1): (1, 1)}]), True)
        for thing in (
            [{(True, 0): (1, 1)}, {(0, 1): (1, 1)}], [{(1, False): (1, 1)}, {(0, 1): (1, 1)}], [{(1, 0): (True, 1)}, {(0, 1): (1, 1)}],
            [{(1, 0): (1, True)}, {(0, 1): (1, 1)}], [{(1, 0): (1, 1)}, {(False, 1): (1, 1)}], [{(1, 0): (1, 1)}, {(0, True): (1, 1)}],
            [{(1, 0): (1, 1)}, {(0, 1): (1, True)}],
        ):
            self.assertIs(shows_table(Split(1, 1), [1], thing), False)
        rule = Blocks([Split(1, 1)])
        self.assertIs(shows_table(rule, [0], [{((0, 1), 0): (1, 1)}, {((1, None), 0): (1, 1)}]), True)
        for thing in (
            [{((0, True), 0): (1, 1)}, {((1, None), 0): (1, 1)}], [{((False, 1), 0): (1, 1)}, {((1, None), 0): (1, 1)}],
            [{((0, 1), 0): (1, 1)}, {((True, None), 0): (1, 1)}],
        ):
            self.assertIs(shows_table(rule, [0], thing), False)

    def test_layers_left_out_and_put_in(self):
        rule, scores = Split(3, 1), [1, 2, 3]
        table = table_of(rule, scores)
        for thing in (
            [], table[:-1], table[1:], table[:1] + table[2:], table + table[-1:], table[:1] + table, table + [{}], table[::-1], [{}] * 4, [{}, {}, {}, {}],
            tuple(table), [table], {0: table}, dict(enumerate(table)), [tuple(layer.items()) for layer in table], [list(layer) for layer in table],
            table[:3] + [None], table[:3] + [[]], [None] + table[1:],
        ):
            self.assertIs(shows_table(rule, scores, thing), False)

    def test_any_other_thing(self):
        rule, scores = Split(3, 1), [1, 2, 3]
        for thing in (
            None, True, False, 0, 1, 10 ** 29, "", "table", (), (1, 1), {}, {(1, 0): (1, 1)}, [], [1], [[]], [None], [True], rule, [rule], DealError("no"),
            [{rule: (1, 1)}], [{(rule, 0): (1, 1)}] * 4, [{(1, 0): rule}] * 4, [[[[[]]]]], {"a": [{}]},
        ):
            self.assertIs(shows_table(rule, scores, thing), False)
        deep = []
        for k in range(2000):
            deep = [deep]
        self.assertIs(shows_table(rule, scores, deep), False)

    def test_the_table_of_other_scores(self):
        rule = Split(3, 1)
        self.assertIs(shows_table(rule, [1, 2, 3], table_of(rule, [1, 3, 2])), False)
        self.assertIs(shows_table(rule, [1, 2, 3], table_of(Split(3, 2), [1, 2, 3])), False)
        self.assertIs(shows_table(Coins(2, HALF, 1), [1, 2], table_of(Coins(2, (1, 3), 1), [1, 2])), False)

    def test_a_great_one(self):
        rule, scores = Split(15, 6), JUST
        table = table_of(rule, scores)
        self.assertIs(shows_table(rule, scores, table), True)
        key = next(iter(table[15]))
        table[15][key] = (1, 7)
        self.assertIs(shows_table(rule, scores, table), False)

    def test_what_is_handed_in_stays(self):
        rule, scores = Split(2, 1), [1, 2]
        table = table_of(rule, scores)
        kept = repr(table)
        shows_table(rule, scores, table)
        self.assertEqual(repr(table), kept)
        self.same(scores, [1, 2])


if __name__ == "__main__":
    unittest.main()
