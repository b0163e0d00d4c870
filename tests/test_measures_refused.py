"""Points 7, 31 and 33: what measures refuse, with which refusal, and in which order."""

import unittest

from trialdeal.errors import DealError, NoFolk, NoOutcome, NoPairs, NotSure, NoTrials, NoWeights
from trialdeal.measures import Ranks, Signs, Sum, Weighted, Wins
from trialdeal.rules import Blocks, Coins, First, Pairs, Split

HALF = (1, 2)
YES = (1, True)
MAYBE = (1, False)
NO_LISTS = [None, True, 0, 3, "", "1 1 1", (), (YES, YES, YES), {}, {0: YES, 1: YES}, Split(3, 1), Sum(), DealError("1")]
NO_OUTCOMES = [None, True, 0, 1, "1", (1,), (1, 1), (True, True), (100, True), (-100, False), [1, True], (1, True, True), {}, Split(1, 1), Sum()]


def inner_ones():
    return [Sum(), Ranks(), Wins(), Signs()]


def all_measures():
    return inner_ones() + [Weighted(inner, [1, 0]) for inner in inner_ones()] + [Weighted(inner, [0]) for inner in inner_ones()]


class RefusedCase(unittest.TestCase):
    def refused(self, refusal, call, *things):
        with self.assertRaises(DealError) as caught:
            call(*things)
        self.assertIs(type(caught.exception), refusal, repr(things)[:80])
        return caught.exception

    def folk_told(self, many, measure, rule, outcomes):
        self.assertEqual(repr(self.refused(NoFolk, measure.scores, rule, outcomes).found), repr(many))

    def not_sure(self, place, measure, rule, outcomes):
        self.assertEqual(repr(self.refused(NotSure, measure.scores, rule, outcomes).place), repr(place))

    def no_pairs(self, block, measure, rule, outcomes):
        self.assertEqual(repr(self.refused(NoPairs, measure.scores, rule, outcomes).block), repr(block))

    def no_weights(self, weights, measure, rule, outcomes):
        found = self.refused(NoWeights, measure.scores, rule, outcomes).found
        self.assertEqual(repr(found), repr(weights))
        return found


class AllMeasures(RefusedCase):
    def rules(self):
        """Some of them are also refused by signs, or for a lack of weights: what is told first goes."""
        return [
            Split(3, 1), Pairs(2, HALF), Coins(3, HALF, 1), Blocks([Split(2, 1), Pairs(1, HALF)]), Blocks([Split(1, 1)] * 3),
            First(Pairs(2, HALF), 3), First(Split(3, 1), 0),
        ]

    def test_what_is_no_list(self):
        for measure in all_measures():
            for rule in self.rules():
                for thing in NO_LISTS:
                    self.assertIs(self.refused(NoFolk, measure.scores, rule, thing).found, thing)

    def test_what_is_no_outcome(self):
        for measure in all_measures():
            for rule in self.rules():
                for other in NO_OUTCOMES:
                    for place in (0, 1, 2, 5):
                        outcomes = [MAYBE] * place + [other, other, YES]
                        self.assertEqual(repr(self.refused(NoOutcome, measure.scores, rule, outcomes).place), repr(place))

    def test_more_or_fewer(self):
        for measure in all_measures():
            for rule in self.rules():
                for many in list(range(8)) + [20, 21, 1100]:
                    if many != rule.folk():
                        self.folk_told(many, measure, rule, [YES] * many)
                        self.folk_told(many, measure, rule, [MAYBE] * many)

    def test_what_is_refused_stays(self):
        outcomes = [YES, MAYBE, None]
        self.refused(NoOutcome, Sum().scores, Split(3, 1), outcomes)
        self.assertEqual(outcomes, [YES, MAYBE, None])


class SureOnes(RefusedCase):
    def test_the_first_that_is_not_sure(self):
        for measure in (Sum(), Ranks()):
            for rule in (Split(6, 2), Pairs(3, HALF), Coins(6, HALF, 2), Blocks([Split(2, 1), Split(4, 1)]), First(Split(9, 2), 6)):
                for place in range(6):
                    self.not_sure(place, measure, rule, [YES] * place + [MAYBE] * (6 - place))
                    self.not_sure(place, measure, rule, [YES] * place + [MAYBE] + [YES] * (5 - place))

    def test_wins_and_signs_take_them(self):
        for measure in (Wins(), Signs(), Weighted(Wins(), [1]), Weighted(Signs(), [1])):
            self.assertEqual(measure.scores(Pairs(1, HALF), [MAYBE, MAYBE]), [0, 0])

    def test_all_sure_ones_are_taken(self):
        for measure in (Sum(), Ranks()):
            self.assertEqual(len(measure.scores(Split(20, 2), [YES] * 20)), 20)


class PairsAlone(RefusedCase):
    def test_other_rules(self):
        for rule in (
            Split(2, 1), Split(4, 2), Coins(2, HALF, 1), Coins(3, HALF, 1), Blocks([Split(2, 1)]), Blocks([Coins(2, HALF, 1), Pairs(1, HALF)]),
            First(Split(4, 2), 2), First(Coins(4, HALF, 1), 4), First(Blocks([Split(4, 2)]), 2), First(First(Split(4, 2), 3), 2),
            Split(1, 1), First(Split(2, 1), 1),
        ):
            self.no_pairs(0, Signs(), rule, [YES] * rule.folk())

    def test_the_first_block_that_is_none(self):
        pairs, other = Pairs(1, HALF), Split(2, 1)
        for number in range(6):
            rules = [pairs] * number + [other] * (6 - number)
            self.no_pairs(number, Signs(), Blocks(rules), [YES] * 12)
            rules = [pairs] * number + [other] + [pairs] * (5 - number)
            self.no_pairs(number, Signs(), Blocks(rules), [MAYBE] * 12)
            self.no_pairs(number, Weighted(Signs(), [0, 1, 0, 0, 2, 0]), Blocks(rules), [MAYBE] * 12)

    def test_cut_amid_a_pair(self):
        for many in (1, 3, 5, 7):
            self.no_pairs(0, Signs(), First(Pairs(4, HALF), many), [YES] * many)
            self.no_pairs(0, Signs(), First(First(Pairs(4, HALF), 8), many), [YES] * many)
            self.no_pairs(0, Weighted(Signs(), [0]), First(Pairs(4, HALF), many), [YES] * many)
        rule = Blocks([Pairs(1, HALF), Pairs(2, HALF), Split(4, 1)])
        for many, block in ((1, 0), (3, 1), (5, 1), (7, 2), (8, 2), (10, 2)):
            self.no_pairs(block, Signs(), First(rule, many), [YES] * many)
            self.no_pairs(block, Weighted(Signs(), [1, 0, 0]), First(rule, many), [YES] * many)
        for many in (0, 2, 4, 6):
            self.assertEqual(Signs().scores(First(rule, many), [YES] * many), [0] * many)

    def test_two_odd_blocks_make_no_pairs(self):
        rule = First(Blocks([Split(1, 0), Pairs(2, HALF)]), 4)
        self.no_pairs(0, Signs(), rule, [YES] * 4)


class WeightedOnes(RefusedCase):
    def test_what_is_no_inner_one(self):
        for thing in (
            None, True, False, 0, 1, "", "sum", "ranks", ("sum",), [], [Sum()], (Sum(),), {}, {"sum": Sum()}, Weighted(Sum(), [1]), Split(2, 1),
            DealError("sum"), 10 ** 29,
        ):
            for weights in ([1], [], None, [21], "1"):
                self.assertIs(self.refused(NoTrials, Weighted, thing, weights).found, thing)

    def test_what_are_no_weights(self):
        for inner in inner_ones():
            for thing in (
                None, True, False, 0, 1, "", "1", "1 1", (), (1,), (1, 2), {}, {0: 1}, [], [1] * 7, [1] * 8, [0] * 1100, [-1], [21], [1, -1],
                [21, 1], [1, 1, 1, 1, 1, 21], [10 ** 30 - 1], [1 - 10 ** 30], [True], [False], [1, True], [None], [1, None], ["1"], [1, "1"], [[1]], [(1,)],
                [(1, 1)], [{}], [Sum()], [Split(2, 1)], Sum(), Split(2, 1), DealError("1"),
            ):
                self.assertIs(self.refused(NoWeights, Weighted, inner, thing).found, thing)

    def test_weights_at_the_bounds(self):
        for inner in inner_ones():
            for weights in ([0], [20], [1], [0, 20], [0] * 6, [20] * 6, [1, 2, 3, 4, 5]):
                self.assertEqual(Weighted(inner, weights).told(), ("weighted", inner.told(), tuple(weights)))

    def test_more_blocks_than_weights(self):
        for inner in inner_ones():
            for many in range(1, 6):
                measure = Weighted(inner, list(range(many)))
                rule = Blocks([Pairs(1, HALF)] * (many + 1))
                self.no_weights(list(range(many)), measure, rule, [YES] * rule.folk())
                rule = Blocks([Pairs(1, HALF)] * many)
                self.assertEqual(measure.scores(rule, [YES] * rule.folk())[:2], [0, 0])

    def test_blocks_of_first_folk_count_alone(self):
        measure = Weighted(Sum(), [2])
        rule = Blocks([Split(2, 1), Split(2, 1)])
        self.assertEqual(measure.scores(First(rule, 2), [YES] * 2), [2, 2])
        self.assertEqual(measure.scores(First(rule, 1), [YES]), [2])
        self.no_weights([2], measure, First(rule, 3), [YES] * 3)

    def test_its_weights_are_a_list_of_the_asker(self):
        given = [3, 0]
        measure = Weighted(Sum(), given)
        rule = Blocks([Split(1, 0)] * 3)
        found = self.no_weights([3, 0], measure, rule, [YES] * 3)
        self.assertIsNot(found, given)
        found.append(1)
        self.no_weights([3, 0], measure, rule, [YES] * 3)
        self.assertEqual(measure.told(), ("weighted", ("sum",), (3, 0)))
        self.assertEqual(given, [3, 0])

    def test_no_weights_ahead_of_what_the_inner_one_refuses(self):
        rule = Blocks([Split(2, 1), Split(2, 1)])
        for inner in (Sum(), Ranks(), Signs()):
            self.no_weights([1], Weighted(inner, [1]), rule, [MAYBE] * 4)

    def test_folk_are_numbered_among_all(self):
        rule = Blocks([Split(2, 1), Pairs(1, HALF), Coins(3, HALF, 1)])
        for inner in (Sum(), Ranks()):
            for weights in ([1, 1, 1], [0, 0, 0], [0, 5, 0, 3]):
                for place in range(7):
                    self.not_sure(place, Weighted(inner, weights), rule, [YES] * place + [MAYBE] * (7 - place))
                    self.not_sure(place, Weighted(inner, weights), rule, [YES] * place + [MAYBE] + [YES] * (6 - place))
                self.not_sure(4, Weighted(inner, weights), First(rule, 5), [YES] * 4 + [MAYBE])

    def test_what_is_refused_changes_nothing(self):
        measure = Weighted(Signs(), [1, 2])
        self.no_pairs(1, measure, Blocks([Pairs(1, HALF), Split(2, 1)]), [YES] * 4)
        self.assertEqual(measure.scores(Blocks([Pairs(1, HALF), Pairs(1, HALF)]), [YES, (0, True)] * 2), [1, -1, 2, -2])


if __name__ == "__main__":
    unittest.main()
