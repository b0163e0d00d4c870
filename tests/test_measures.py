"""Points 5, 33 and 34: the scores of the five measures, what they are told by, and values of dealings."""

import unittest
from itertools import product

from trialdeal.errors import DealError, NoDealing
from trialdeal.measures import Measure, Ranks, Signs, Sum, Weighted, Wins, value_of
from trialdeal.rules import Blocks, Coins, First, Pairs, Split

HALF = (1, 2)
SOME = [(7, True), (-3, True), (7, True), (0, True), (99, True), (-99, True), (0, True), (0, True), (12, True), (1, True)]
UNSURE = [(7, False), (-3, True), (7, True), (0, False), (99, True), (-99, False), (0, True), (0, False), (12, True), (1, True)]


def rules_of(folk):
    """Rules of all five kinds for so many folk."""
    rules = [Split(folk, folk // 2), Coins(folk, (1, 3), 2), First(Split(folk + 1, 1), folk), First(Coins(20, HALF, 1), folk)]
    if folk % 2 == 0:
        rules.append(Pairs(folk // 2, (2, 5)))
    if folk > 2:
        rules.append(Blocks([Split(2, 1), Coins(folk - 2, HALF, 3)]))
        rules.append(First(Blocks([Pairs(1, HALF), Split(folk, 2)]), folk))
    return rules


def surely_greater(one, other):
    return other[1] and other[0] < one[0]


def wanted_sum(outcomes):
    return [number for number, sure in outcomes]


def wanted_ranks(outcomes):
    """Twice the middle of the places of those alike, counted from 1."""
    numbers = sorted(number for number, sure in outcomes)
    scores = []
    for number, sure in outcomes:
        places = [at + 1 for at, other in enumerate(numbers) if other == number]
        scores.append(places[0] + places[-1])
    return scores


def wanted_wins(outcomes):
    return [
        sum(surely_greater(one, other) for other in outcomes) - sum(surely_greater(other, one) for other in outcomes)
        for one in outcomes
    ]


def wanted_signs(outcomes):
    scores = []
    for one, other in zip(outcomes[::2], outcomes[1::2]):
        sign = int(surely_greater(one, other)) - int(surely_greater(other, one))
        scores += [sign, -sign]
    return scores


class MeasureCase(unittest.TestCase):
    def same(self, told, wanted):
        self.assertEqual(repr(told), repr(wanted))


class PlainScores(MeasureCase):
    def test_by_hand(self):
        rule = Split(6, 3)
        outcomes = [(5, True), (-2, True), (5, True), (0, True), (9, True), (5, True)]
        self.same(Sum().scores(rule, outcomes), [5, -2, 5, 0, 9, 5])
        self.same(Ranks().scores(rule, outcomes), [8, 2, 8, 4, 12, 8])
        self.same(Wins().scores(rule, outcomes), [1, -5, 1, -3, 5, 1])
        outcomes = [(5, True), (5, False), (7, True), (3, False), (3, True), (9, False)]
        self.same(Wins().scores(rule, outcomes), [-1, 1, 1, 0, -4, 3])
        self.same(Signs().scores(Pairs(3, HALF), outcomes), [0, 0, 0, 0, -1, 1])
        self.same(Signs().scores(Pairs(3, HALF), [(1, True), (0, True), (0, True), (1, True), (4, False), (4, True)]), [1, -1, -1, 1, 0, 0])

    def test_all_rules(self):
        for folk in range(1, 11):
            outcomes, unsure = SOME[:folk], UNSURE[:folk]
            for rule in rules_of(folk):
                self.same(Sum().scores(rule, outcomes), wanted_sum(outcomes))
                self.same(Ranks().scores(rule, outcomes), wanted_ranks(outcomes))
                self.same(Wins().scores(rule, outcomes), wanted_wins(outcomes))
                self.same(Wins().scores(rule, unsure), wanted_wins(unsure))

    def test_few_outcomes_of_all_sorts(self):
        rule, pairs = Split(4, 2), Pairs(2, (1, 3))
        for numbers in product((-1, 0, 1), repeat=4):
            outcomes = [(number, True) for number in numbers]
            self.same(Ranks().scores(rule, outcomes), wanted_ranks(outcomes))
            for sures in product((True, False), repeat=4):
                outcomes = list(zip(numbers, sures))
                self.same(Wins().scores(rule, outcomes), wanted_wins(outcomes))
                self.same(Signs().scores(pairs, outcomes), wanted_signs(outcomes))

    def test_all_alike(self):
        for folk in (1, 2, 3, 19, 20):
            outcomes = [(-7, True)] * folk
            rule = Split(folk, 1)
            self.same(Sum().scores(rule, outcomes), [-7] * folk)
            self.same(Ranks().scores(rule, outcomes), [folk + 1] * folk)
            self.same(Wins().scores(rule, outcomes), [0] * folk)
            self.same(Wins().scores(rule, [(7, False)] * folk), [0] * folk)

    def test_twenty_folk(self):
        outcomes = [(9 * at % 20 - 10, at % 3 > 0) for at in range(20)]
        sure = [(number, True) for number, whether in outcomes]
        for rule in (Split(20, 10), Pairs(10, (1, 100)), Coins(20, HALF, 20), Blocks([Split(7, 3), Pairs(6, HALF), Split(1, 1)])):
            self.same(Sum().scores(rule, sure), wanted_sum(sure))
            self.same(Ranks().scores(rule, sure), wanted_ranks(sure))
            self.same(sorted(Ranks().scores(rule, sure)), list(range(2, 42, 2)))
            self.same(Wins().scores(rule, outcomes), wanted_wins(outcomes))
        self.same(Signs().scores(Pairs(10, HALF), outcomes), wanted_signs(outcomes))

    def test_the_bounds_of_numbers(self):
        outcomes = [(99, True), (-99, True)]
        self.same(Sum().scores(Split(2, 1), outcomes), [99, -99])
        self.same(Ranks().scores(Split(2, 1), outcomes), [4, 2])
        self.same(Wins().scores(Split(2, 1), outcomes), [1, -1])
        self.same(Signs().scores(Pairs(1, HALF), outcomes), [1, -1])

    def test_wins_tell_how_often_hand_1_is_greater(self):
        outcomes = UNSURE[:6]
        scores = Wins().scores(Split(6, 3), outcomes)
        for dealing in range(64):
            ones = [outcomes[at] for at in range(6) if dealing >> at & 1]
            zeros = [outcomes[at] for at in range(6) if not dealing >> at & 1]
            more = sum(surely_greater(one, zero) - surely_greater(zero, one) for one in ones for zero in zeros)
            self.same(value_of(scores, dealing), int(more))


class SignsOfPairs(MeasureCase):
    def test_blocks_of_pairs(self):
        outcomes = [(number, at % 4 > 0) for at, (number, sure) in enumerate(SOME)]
        wanted = wanted_signs(outcomes)
        for rule in (
            Pairs(5, (1, 3)), Blocks([Pairs(5, HALF)]), Blocks([Pairs(1, HALF), Pairs(3, (1, 3)), Pairs(1, HALF)]), Blocks([Pairs(1, HALF)] * 5),
            First(Pairs(5, HALF), 10), First(Pairs(9, HALF), 10), First(First(Pairs(9, HALF), 11), 10),
            First(Blocks([Pairs(2, HALF), Pairs(4, HALF)]), 10), First(Blocks([Pairs(2, HALF), Pairs(3, HALF), Split(4, 1)]), 10),
            First(Blocks([Pairs(5, HALF), Coins(2, HALF, 1)]), 10), First(First(Blocks([Pairs(5, HALF), Coins(2, HALF, 1)]), 11), 10),
        ):
            self.same(Signs().scores(rule, outcomes), wanted)

    def test_whole_pairs_of_first_folk(self):
        for many in (2, 4, 6, 8):
            self.same(Signs().scores(First(Pairs(4, HALF), many), SOME[:many]), wanted_signs(SOME[:many]))


class NoFolkAtAll(MeasureCase):
    def test_the_first_none_of_a_rule(self):
        for rule in (Split(3, 1), Pairs(2, HALF), Coins(2, HALF, 1), Blocks([Split(3, 1), Coins(1, HALF, 1)]), First(Split(3, 1), 2)):
            none = First(rule, 0)
            for measure in (Sum(), Ranks(), Wins(), Signs()):
                self.same(measure.scores(none, []), [])
                self.same(Weighted(measure, [3]).scores(none, []), [])
                self.same(Weighted(measure, [0, 1, 2, 3, 4, 5]).scores(none, []), [])


class WeightedScores(MeasureCase):
    def wanted(self, rule, outcomes, weights, by):
        scores = []
        for number, block in enumerate(rule.blocks()):
            scores += [weights[number] * score for score in by([outcomes[at] for at in block])]
        return scores

    def test_by_hand(self):
        rule = Blocks([Split(3, 1), Pairs(1, HALF)])
        outcomes = [(5, True), (1, True), (5, True), (1, True), (9, True)]
        self.same(Weighted(Sum(), [2, 3]).scores(rule, outcomes), [10, 2, 10, 3, 27])
        self.same(Weighted(Ranks(), [2, 3]).scores(rule, outcomes), [10, 4, 10, 6, 12])
        self.same(Weighted(Wins(), [2, 3]).scores(rule, outcomes), [2, -4, 2, -3, 3])
        self.same(Weighted(Wins(), [0, 20]).scores(rule, outcomes), [0, 0, 0, -20, 20])
        self.same(Weighted(Signs(), [2, 3]).scores(Blocks([Pairs(1, HALF), Pairs(1, HALF)]), outcomes[:4]), [2, -2, 3, -3])

    def test_block_by_block(self):
        outcomes, unsure = SOME, UNSURE
        for rule in (
            Split(10, 4), Pairs(5, HALF), Coins(10, HALF, 1), Blocks([Split(10, 4)]), Blocks([Split(4, 2), Coins(6, HALF, 2)]),
            Blocks([Pairs(1, HALF), Split(1, 0), Split(1, 1), Coins(4, (1, 3), 1), Split(1, 0), Split(1, 0)]),
            First(Blocks([Split(7, 3), Coins(6, HALF, 2), Split(3, 1)]), 10), First(Blocks([Split(4, 3), Coins(6, HALF, 2), Split(3, 1)]), 10),
            First(Blocks([Split(4, 3), Coins(5, HALF, 2), Split(3, 1)]), 10), First(Split(20, 3), 10),
        ):
            for weights in ([1, 1, 1, 1, 1, 1], [20, 0, 7, 1, 2, 3], [0, 1, 0, 2, 5, 20], [0] * 6):
                self.same(Weighted(Sum(), weights).scores(rule, outcomes), self.wanted(rule, outcomes, weights, wanted_sum))
                self.same(Weighted(Ranks(), weights).scores(rule, outcomes), self.wanted(rule, outcomes, weights, wanted_ranks))
                self.same(Weighted(Wins(), weights).scores(rule, unsure), self.wanted(rule, unsure, weights, wanted_wins))

    def test_signs_in_blocks(self):
        for rule in (
            Pairs(5, HALF), Blocks([Pairs(2, HALF), Pairs(3, HALF)]), Blocks([Pairs(1, HALF)] * 5),
            First(Blocks([Pairs(2, HALF), Pairs(4, HALF)]), 10), First(Blocks([Pairs(5, HALF), Split(4, 1)]), 10),
        ):
            for weights in ([1, 2, 3, 4, 5], [20, 0, 1, 0, 2, 9]):
                self.same(Weighted(Signs(), weights).scores(rule, UNSURE), self.wanted(rule, UNSURE, weights, wanted_signs))

    def test_just_as_many_weights_and_more(self):
        rule = Blocks([Split(2, 1), Split(2, 1)])
        for weights in ([2, 3], [2, 3, 4], [2, 3, 0, 0, 0, 20]):
            self.same(Weighted(Sum(), weights).scores(rule, [(1, True)] * 4), [2, 2, 3, 3])
        self.same(Weighted(Sum(), [2, 3]).scores(Split(4, 1), [(1, True)] * 4), [2, 2, 2, 2])

    def test_six_blocks_and_twenty_folk(self):
        rule = Blocks([Split(3, 1), Split(3, 1), Split(3, 1), Split(3, 1), Split(3, 1), Split(5, 1)])
        outcomes = [(99, True), (-99, True)] * 10
        weights = [20, 19, 1, 0, 2, 20]
        self.same(Weighted(Sum(), weights).scores(rule, outcomes), self.wanted(rule, outcomes, weights, wanted_sum))
        self.same(Weighted(Sum(), weights).scores(rule, outcomes)[-1], -1980)

    def test_a_list_of_weights_that_is_changed(self):
        weights = [2, 3]
        measure = Weighted(Sum(), weights)
        weights[0] = 9
        weights.append(4)
        rule = Blocks([Split(1, 0), Split(1, 0)])
        self.same(measure.scores(rule, [(1, True)] * 2), [2, 3])
        self.same(measure.told(), ("weighted", ("sum",), (2, 3)))
        self.same(weights, [9, 3, 4])


class HandedInAndTold(MeasureCase):
    def measures(self):
        return [Sum(), Ranks(), Wins(), Signs(), Weighted(Sum(), [2]), Weighted(Ranks(), [2]), Weighted(Wins(), [2]), Weighted(Signs(), [2])]

    def test_lists_stay_and_are_new(self):
        rule = Pairs(2, HALF)
        outcomes = SOME[:4]
        for measure in self.measures():
            told = measure.scores(rule, outcomes)
            kept = list(told)
            self.assertIs(type(told), list)
            self.same(outcomes, SOME[:4])
            told[0] = 77
            told.clear()
            self.same(measure.scores(rule, outcomes), kept)
        again = [measure.scores(Pairs(2, HALF), SOME[:4]) for measure in self.measures()]
        self.same(again, [measure.scores(rule, outcomes) for measure in self.measures()])


class WordsAndTuples(MeasureCase):
    def test_words(self):
        for measure, word in ((Sum(), "sum"), (Ranks(), "ranks"), (Wins(), "wins"), (Signs(), "signs")):
            self.same(measure.word(), word)
            self.same(measure.told(), (word,))
            weighted = Weighted(measure, [3, 0, 20])
            self.same(weighted.word(), "weighted")
            self.same(weighted.told(), ("weighted", (word,), (3, 0, 20)))
            self.same(Weighted(measure, [1]).told(), ("weighted", (word,), (1,)))

    def test_classes(self):
        classes = [Sum, Ranks, Wins, Signs, Weighted]
        for one in classes:
            self.assertTrue(issubclass(one, Measure))
            for other in classes:
                self.assertEqual(issubclass(one, other), one is other)
        for measure in (Sum(), Ranks(), Wins(), Signs(), Weighted(Sum(), [1])):
            self.assertIsInstance(measure, Measure)


class Values(MeasureCase):
    def test_all_of_few_folk(self):
        for scores in ([], [5], [-3], [0], [1, 2], [1, 2, 4, 8, 16], [-7, 0, 7, 10 ** 20, -1], [3, 3, 3, 3]):
            for dealing in range(2 ** len(scores)):
                wanted = sum(score for at, score in enumerate(scores) if dealing >> at & 1)
                self.same(value_of(scores, dealing), wanted)

    def test_twenty_folk(self):
        scores = [(-1) ** at * 3 ** at for at in range(20)]
        for dealing in (0, 1, 2 ** 19, 2 ** 20 - 1, 2 ** 20 - 2, 0b10110, 2 ** 20 // 3):
            self.same(value_of(scores, dealing), sum(score for at, score in enumerate(scores) if dealing >> at & 1))
        self.same(value_of([1] * 20, 2 ** 20 - 1), 20)

    def test_what_is_no_dealing(self):
        for scores in ([], [5], [1, 2], [1, 2, 3], [0] * 20):
            for thing in (
                True, False, None, "", "0", "1", [], [0], (), (0, 1), {}, {0: 1}, Split(2, 1), Sum(), -1, -2, 10 ** 30 - 1, 1 - 10 ** 30,
                2 ** len(scores), 2 ** len(scores) + 1,
            ):
                with self.assertRaises(DealError) as caught:
                    value_of(scores, thing)
                self.assertIs(type(caught.exception), NoDealing)
                self.assertIs(caught.exception.found, thing)
            self.same(value_of(scores, 2 ** len(scores) - 1), sum(scores))

    def test_what_is_handed_in_stays(self):
        scores = [1, 2, 3]
        self.same(value_of(scores, 5), 4)
        self.same(scores, [1, 2, 3])


if __name__ == "__main__":
    unittest.main()
