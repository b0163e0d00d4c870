"""Points 5, 9, 44 and 45: told shares, and the dealings that are called at a level."""

import unittest
from fractions import Fraction

from trialdeal.dealings import all_dealings
from trialdeal.errors import DealError, NoDealing, NoFolk, NoLevel, NoOutcome, NoPairs, NotSure, NoWeights, TooMany
from trialdeal.measures import Ranks, Signs, Sum, Weighted, Wins, value_of
from trialdeal.rules import Blocks, Coins, First, Pairs, Split
from trialdeal.toldshare import called_at, told_share

HALF = (1, 2)
YES = (1, True)
MAYBE = (1, False)
# With these the table of a split of the first 14 and one of the others is too great.
WIDE = [(number, True) for number in (1, 2, 4, 8, 16, 32, 64, 99, 97, 89, 83, 79, 73, 61, 1, 7, 31, 43, 3, 5)]
NO_LEVELS = [
    None, True, False, 0, 1, "", "1/2", [], [1, 2], (), (1,), (1, 2, 3), (2, 4), (0, 2), (2, 2), (3, 2), (-1, 2), (1, -2), (1, 0), (0, 0), (True, 2), (1, True),
    (True, True), (False, True), ("1", "2"), (None, 1), {}, {1: 2}, Split(2, 1), Sum(), DealError("1"), [(1, 2)], (10 ** 30 - 1, 1),
]
NO_DEALINGS = [True, False, None, "", "0", "1", "10", [], [1], (), (1,), (1, 2), {}, {1: 1}, Split(2, 1), Sum(), -1, 10 ** 30 - 1, 1 - 10 ** 30]


def pair_of(fraction):
    return (fraction.numerator, fraction.denominator)


def small_cases():
    """Tuples (rule, outcomes, measure) of all sorts."""
    sure = [(3, True), (-1, True), (3, True), (0, True), (7, True), (-1, True), (2, True)]
    unsure = [(3, False), (-1, True), (3, True), (0, False), (7, True), (7, False), (2, True)]
    alike = [(5, True)] * 7
    rules = [
        Split(1, 1), Split(4, 2), Split(5, 2), Coins(4, (1, 3), 2), Coins(6, HALF, 20), Pairs(2, (1, 3)), Pairs(3, HALF), Blocks([Split(3, 1), Pairs(2, (2, 5))]),
        Blocks([Pairs(1, HALF), Pairs(2, (1, 3))]), First(Split(6, 3), 4), First(Blocks([Split(3, 1), Coins(4, HALF, 1)]), 5), First(Pairs(3, HALF), 4), First(Split(3, 1), 0),
    ]
    cases = []
    for rule in rules:
        folk = rule.folk()
        for outcomes in (sure[:folk], alike[:folk]):
            for measure in (Sum(), Ranks(), Wins(), Weighted(Sum(), [2, 0]), Weighted(Ranks(), [1, 3]), Weighted(Wins(), [3, 1, 1])):
                cases.append((rule, outcomes, measure))
        cases += [(rule, unsure[:folk], Wins()), (rule, unsure[:folk], Weighted(Wins(), [1, 2]))]
        if all(len(block) % 2 == 0 for block in rule.blocks()) and "pairs" in repr(rule.told()) and "split" not in repr(rule.told()):
            cases += [(rule, sure[:folk], Signs()), (rule, unsure[:folk], Signs()), (rule, unsure[:folk], Weighted(Signs(), [1, 2]))]
    return cases


def told_by_all(rule, outcomes, measure):
    """The told share of each dealing, by all dealings gone through."""
    scores = measure.scores(rule, outcomes)
    rows = [(dealing, Fraction(*share), value_of(scores, dealing)) for dealing, share in all_dealings(rule)]
    return {dealing: sum(share for other, share, more in rows if more >= value) for dealing, part, value in rows}


class ToldCase(unittest.TestCase):
    def same(self, told, wanted):
        self.assertEqual(repr(told), repr(wanted))

    def refused(self, refusal, call, *things):
        with self.assertRaises(DealError) as caught:
            call(*things)
        self.assertIs(type(caught.exception), refusal, repr(things)[:100])
        return caught.exception


class ToldShares(ToldCase):
    def test_all_dealings_gone_through(self):
        for rule, outcomes, measure in small_cases():
            for dealing, share in told_by_all(rule, outcomes, measure).items():
                self.same(told_share(rule, outcomes, measure, dealing), pair_of(share))

    def test_by_hand(self):
        outcomes = [(4, True), (1, True), (3, True), (0, True)]
        for dealing, share in ((5, (1, 6)), (3, (1, 3)), (9, (2, 3)), (6, (2, 3)), (12, (5, 6)), (10, (1, 1))):
            self.same(told_share(Split(4, 2), outcomes, Sum(), dealing), share)
        self.same(told_share(Pairs(1, (1, 3)), [(4, True), (1, True)], Signs(), 1), (1, 3))
        self.same(told_share(Pairs(1, (1, 3)), [(4, True), (1, True)], Signs(), 2), (1, 1))

    def test_twenty_folk(self):
        outcomes = [(1, True)] * 10 + [(0, True)] * 10
        self.same(told_share(Split(20, 10), outcomes, Sum(), 2 ** 10 - 1), (1, 184756))
        self.same(told_share(Split(20, 10), outcomes, Ranks(), 2 ** 10 - 1), (1, 184756))
        self.same(told_share(Split(20, 10), outcomes, Wins(), 2 ** 10 - 2 + 2 ** 19), pair_of(Fraction(101, 184756)))
        self.same(told_share(Pairs(10, (1, 100)), [(1, True), (0, True)] * 10, Signs(), int("01" * 10, 2)), (1, 100 ** 10))
        self.same(told_share(Coins(20, (99, 100), 20), [(-99, True)] * 20, Sum(), 2 ** 20 - 1), (1, 1))
        self.same(told_share(Coins(20, (99, 100), 20), [(-99, True)] * 20, Sum(), 0), (1, 100 ** 20))

    def test_what_is_no_dealing_of_the_rule(self):
        for rule, never in (
            (Split(4, 2), [0, 1, 7, 15, 8, 16, 17]), (Pairs(2, HALF), [0, 3, 15, 12, 16]), (Coins(3, HALF, 1), [0, 3, 4, 7, 8]),
            (Blocks([Split(2, 2), Split(2, 0)]), [0, 1, 2, 4, 12, 15, 16]), (First(Split(4, 1), 3), [3, 5, 6, 7, 8]), (First(Split(4, 1), 0), [1]),
        ):
            outcomes = [YES] * rule.folk()
            for thing in NO_DEALINGS + never:
                self.assertIs(self.refused(NoDealing, told_share, rule, outcomes, Sum(), thing).found, thing)

    def test_too_many(self):
        blocks = Blocks([Split(14, 6), Split(6, 3)])
        self.same(self.refused(TooMany, told_share, blocks, WIDE, Weighted(Sum(), [20, 1]), 63 + (7 << 14)).many, 5001)
        self.same(told_share(blocks, [YES] * 20, Weighted(Sum(), [20, 1]), 63 + (7 << 14)), (1, 1))

    def test_many_dealings_need_no_great_table(self):
        rule = Coins(20, HALF, 20)
        self.same(told_share(rule, [(9, True)] * 20, Sum(), 2 ** 20 - 1), (1, 2 ** 20))
        self.same(told_share(rule, [(at, True) for at in range(20)], Ranks(), 2 ** 20 - 2), (1, 2 ** 19))

    def test_the_order_of_refusals(self):
        rule = Split(4, 2)
        self.assertEqual(self.refused(NoFolk, told_share, rule, (YES,), Sum(), None).found, (YES,))
        self.same(self.refused(NoOutcome, told_share, rule, [YES, 7], Sum(), None).place, 1)
        self.same(self.refused(NoFolk, told_share, rule, [YES] * 3, Sum(), None).found, 3)
        self.same(self.refused(NotSure, told_share, rule, [YES, MAYBE] * 2, Sum(), None).place, 1)
        self.same(self.refused(NoPairs, told_share, rule, [YES] * 4, Signs(), 99).block, 0)
        self.same(self.refused(NoWeights, told_share, Blocks([rule, rule]), [YES] * 8, Weighted(Sum(), [1]), 99).found, [1])
        blocks = Blocks([Split(14, 6), Split(6, 3)])
        measure = Weighted(Sum(), [20, 1])
        for thing in NO_DEALINGS + [0, 2 ** 20]:
            self.assertIs(self.refused(NoDealing, told_share, blocks, WIDE, measure, thing).found, thing)
        self.same(self.refused(TooMany, told_share, blocks, WIDE, measure, 63 + (7 << 14)).many, 5001)

    def test_the_same_again(self):
        outcomes = [(4, True), (1, True), (3, True), (0, True)]
        for again in range(2):
            self.same(told_share(Split(4, 2), outcomes, Sum(), 3), (1, 3))
            self.same(called_at(Split(4, 2), outcomes, Sum(), (1, 3)), [3, 5])
        self.same(outcomes, [(4, True), (1, True), (3, True), (0, True)])


class Called(ToldCase):
    def levels(self, told):
        """None, all, each told share, a little below it and above."""
        levels = {Fraction(0), Fraction(1), Fraction(1, 20), Fraction(1, 10 ** 40)}
        for share in told.values():
            levels.update((share, share - Fraction(1, 10 ** 40), share - share / 10 ** 400))
            levels.add(min(Fraction(1), share + Fraction(1, 10 ** 40)))
        return sorted(levels)

    def test_all_dealings_gone_through(self):
        for rule, outcomes, measure in small_cases():
            told = told_by_all(rule, outcomes, measure)
            shares = {dealing: Fraction(*share) for dealing, share in all_dealings(rule)}
            for level in self.levels(told):
                wanted = sorted(dealing for dealing in told if told[dealing] <= level)
                self.same(called_at(rule, outcomes, measure, pair_of(level)), wanted)
                self.assertLessEqual(sum(shares[dealing] for dealing in wanted), level)

    def test_by_hand(self):
        outcomes = [(4, True), (1, True), (3, True), (0, True)]
        rule = Split(4, 2)
        for level, called in (
            ((0, 1), []), ((1, 7), []), ((1, 6), [5]), ((1, 5), [5]), ((33, 100), [5]), ((1, 3), [3, 5]), ((1, 2), [3, 5]), ((2, 3), [3, 5, 6, 9]),
            ((5, 6), [3, 5, 6, 9, 12]), ((99, 100), [3, 5, 6, 9, 12]), ((1, 1), [3, 5, 6, 9, 10, 12]),
        ):
            self.same(called_at(rule, outcomes, Sum(), level), called)

    def test_many_dealings(self):
        outcomes = [(1, True)] * 4 + [(0, True)] * 16
        self.same(called_at(Split(20, 4), outcomes, Sum(), (1, 4845)), [15])
        self.same(called_at(Split(20, 4), outcomes, Sum(), (1, 4846)), [])
        self.assertEqual(len(called_at(Split(20, 4), outcomes, Sum(), (13, 969))), 65)
        self.assertEqual(len(called_at(Split(20, 4), outcomes, Sum(), (64, 4845))), 1)
        self.assertEqual(len(called_at(Split(20, 4), outcomes, Ranks(), (1, 1))), 4845)
        self.same(called_at(Split(20, 0), outcomes, Ranks(), (1, 1)), [0])
        rule = Blocks([Split(5, 2), Split(5, 3), Split(5, 2), Split(5, 1)])
        self.assertEqual(len(called_at(rule, outcomes, Sum(), (1, 1))), 5000)
        self.same(called_at(Pairs(10, (1, 100)), [(1, True), (0, True)] * 10, Signs(), (1, 100 ** 10)), [int("01" * 10, 2)])

    def test_what_is_no_level(self):
        for thing in NO_LEVELS:
            self.assertIs(self.refused(NoLevel, called_at, Split(4, 2), [YES] * 4, Sum(), thing).found, thing)
            self.assertIs(self.refused(NoLevel, called_at, Split(20, 10), [YES] * 20, Sum(), thing).found, thing)

    def test_too_many(self):
        for rule in (Split(15, 6), Split(20, 10), Coins(13, HALF, 20), Blocks([Pairs(5, HALF), Split(10, 5)])):
            for level in ((0, 1), (1, 20), (1, 1)):
                self.same(self.refused(TooMany, called_at, rule, [YES] * rule.folk(), Sum(), level).many, 5001)

    def test_the_order_of_refusals(self):
        for rule, level in ((Split(4, 2), None), (Split(20, 10), None)):
            many = rule.folk()
            self.assertEqual(self.refused(NoFolk, called_at, rule, "1 1", Sum(), level).found, "1 1")
            self.same(self.refused(NoOutcome, called_at, rule, [YES, YES, 7], Sum(), level).place, 2)
            self.same(self.refused(NoFolk, called_at, rule, [YES] * (many + 1), Sum(), level).found, many + 1)
            self.same(self.refused(NotSure, called_at, rule, [MAYBE] * many, Ranks(), level).place, 0)
            self.same(self.refused(NoPairs, called_at, rule, [YES] * many, Signs(), level).block, 0)
            blocks = Blocks([rule]) if many == 20 else Blocks([rule, rule])
            weights = Weighted(Signs(), [2])
            refusal = NoPairs if many == 20 else NoWeights
            self.refused(refusal, called_at, blocks, [YES] * blocks.folk(), weights, level)

    def test_a_list_that_is_changed(self):
        outcomes = [(4, True), (1, True), (3, True), (0, True)]
        called = called_at(Split(4, 2), outcomes, Sum(), (1, 3))
        called.append(77)
        self.same(called_at(Split(4, 2), outcomes, Sum(), (1, 3)), [3, 5])
        none = called_at(Split(4, 2), outcomes, Sum(), (0, 1))
        none.append(77)
        self.same(called_at(Split(4, 2), outcomes, Sum(), (0, 1)), [])
        self.same(outcomes, [(4, True), (1, True), (3, True), (0, True)])


if __name__ == "__main__":
    unittest.main()
